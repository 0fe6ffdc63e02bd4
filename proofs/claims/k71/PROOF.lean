import PyProof.Rows.All
import Wide.All
import OpenK.AllK
import Wide.FinOn
import HandS.ForMost
import HandS.IsInst
import HandS.Conv
import HandS.TupLe
import HandS.Walk
import HandS.Zip
import HandS.Defaults
import HandS.MakeKwOnly
import HandS.SetFor
import HandS.Wide
import HandS.ForExc
import HandS.ExcInit
import KE.KExcIs
import PyProof.ReprLen
import HandS.TupAny
import HandS.Style
import HandS.Text
import HandS.StrMore
import HandS.Codes
import HandS.FStr
import KE.OsScanText
import HandS.RaiseMore
import HandS.ExcField
import HandS.CallSlots
import HandS.TryOnly
import HandS.Replace
import HandS.ReplaceLit
import HandS.Flow
import PyProof.Rows.StrStrike
import HandS.StrSplit
import KE.IntTextText
import HandS.Deep
import PySem.Challenge.RW_sealedreach_k71_words_written_and_read
set_option Elab.async false
set_option linter.all false
set_option maxRecDepth 100000
set_option maxHeartbeats 4000000
namespace My
open PySem PySem.Spec PyProof.Rows L2
/-! ### calls of a def by its name alone -/
structure Cal (P : Program) (w : World) (K : PySem.W.Frag) (mg : Str → Option Value) (base : Heap) (x : Str) (k : Nat) (ps : List Str) (sp : Sp) : Prop where
  ex : ∃ (f : Addr) (fd : FuncData), FnOk P w K mg base CX0 k f fd ps sp ∧ mg x = some (.ref f) ∧ PySem.W.keepIn K (.ref f) = true ∧ Binds K fd ps []
theorem pe_cal {X : Cx} {x : Str} {k : Nat} {ps : List Str} {sp : Sp} {e : Expr} {es : List Expr} {t : TA} {p pos : Pos} (C : Cal X.prog X.w X.K X.mg X.base x k ps sp) (hr : Room k X.A)
    (ha : PA X (e :: es) t) (hg : Gl X x := by rfl) (hdb : (x == ("__debug__" : Str)) = false := by decide) (he : starEach (e :: es) X.env = (false, eval e X.env) :: starEach es X.env := by rfl) (hpl : (backTo pos (starEach es X.env)).any (·.1) = false := by rfl) :
    PE X (.Call (.Name x p) (e :: es) [] pos) (tCall sp [] E0 t) := by
  obtain ⟨f, fd, G, g, kp, b⟩ := C.ex
  exact pe_call G hr hg g kp b .nil pass0 ha hdb he hpl
theorem pe_cal0 {X : Cx} {x : Str} {k : Nat} {sp : Sp} {p pos : Pos} (C : Cal X.prog X.w X.K X.mg X.base x k [] sp) (hr : Room k X.A) (hg : Gl X x := by rfl) (hdb : (x == ("__debug__" : Str)) = false := by decide) :
    PE X (.Call (.Name x p) [] [] pos) (fun σ H Q => sp [] H Q E0) := by
  obtain ⟨f, fd, G, g, kp, b⟩ := C.ex
  exact pe_call0 G hr hg g kp b .nil pass0 hdb
/-- .. with defaults of its keyword-only names -/
structure CalD (P : Program) (w : World) (K : PySem.W.Frag) (mg : Str → Option Value) (base : Heap) (x : Str) (k : Nat) (ps : List Str) (dvs : List V) (sp : Sp) : Prop where
  ex : ∃ (f : Addr) (fd : FuncData) (ds : List Value), FnOk P w K mg base CX0 k f fd ps sp ∧ mg x = some (.ref f) ∧ PySem.W.keepIn K (.ref f) = true ∧ Vals dvs ds ∧ Binds K fd ps ds
theorem pe_calD {X : Cx} {x : Str} {k : Nat} {ps : List Str} {dvs : List V} {sp : Sp} {e : Expr} {es : List Expr} {t : TA} {p pos : Pos} (C : CalD X.prog X.w X.K X.mg X.base x k ps dvs sp) (hr : Room k X.A)
    (ha : PA X (e :: es) t) (hg : Gl X x := by rfl) (hdb : (x == ("__debug__" : Str)) = false := by decide) (he : starEach (e :: es) X.env = (false, eval e X.env) :: starEach es X.env := by rfl) (hpl : (backTo pos (starEach es X.env)).any (·.1) = false := by rfl) :
    PE X (.Call (.Name x p) (e :: es) [] pos) (tCall sp dvs E0 t) := by
  obtain ⟨f, fd, ds, G, g, kp, hd, b⟩ := C.ex
  exact pe_call G hr hg g kp b hd pass0 ha hdb he hpl
/-- .. called with one place and its keyword-only names -/
structure CalK (P : Program) (w : World) (K : PySem.W.Frag) (mg : Str → Option Value) (base : Heap) (x : Str) (k : Nat) (ps : List Str) (n : Nat) (ks : List Str) (sp : Sp) : Prop where
  ex : ∃ (f : Addr) (fd : FuncData) (g : List Value → List Value → List Value), FnOk P w K mg base CX0 k f fd ps sp ∧ mg x = some (.ref f) ∧ PySem.W.keepIn K (.ref f) = true ∧ KBn K fd ps n ks g (fun vs zs => vs ++ zs)
theorem pe_calK {X : Cx} {x : Str} {k n : Nat} {ps ks : List Str} {sp : Sp} {e : Expr} {es : List Expr} {kws : List Keyword} {t tk : TA} {p pos : Pos} (C : CalK X.prog X.w X.K X.mg X.base x k ps n ks sp) (hr : Room k X.A)
    (ha : PA X (e :: es) t) (hkw : PK X kws tk) (hg : Gl X x := by rfl) (hall : (backToKw pos (keywordEach kws X.env)).all (·.1.isSome) = true := by rfl) (hks : (backToKw pos (keywordEach kws X.env)).filterMap (·.1) = ks := by rfl)
    (hdb : (x == ("__debug__" : Str)) = false := by decide) (he : starEach (e :: es) X.env = (false, eval e X.env) :: starEach es X.env := by rfl)
    (hpl : ((backTo pos (starEach (e :: es) X.env)).any (·.1) || (backToKw pos (keywordEach kws X.env)).any (·.1.isNone)) = false := by rfl) :
    PE X (.Call (.Name x p) (e :: es) kws pos) (tCallN n ks.length sp (fun vs zs => vs ++ zs) E0 t tk) := by
  obtain ⟨f, fd, g, G, gm, kp, b⟩ := C.ex
  exact pe_callN G hr hg gm kp b pass0 ha hkw hall hks hdb he hpl
/-! ### tests -/
theorem ifnd {p : Prop} [Decidable p] {A B : Prop} (h1 : ¬ p → A) (h2 : p → B) : if (!decide p) = true then A else B := by
  by_cases h : p
  · rw [decide_eq_true h]; exact h2 h
  · rw [decide_eq_false h]; exact h1 h
theorem ifnb {c : Bool} {A B : Prop} (h1 : c = false → A) (h2 : c = true → B) : if (!c) = true then A else B := by
  cases c with
  | true => exact h2 rfl
  | false => exact h1 rfl
theorem ifd {p : Prop} [Decidable p] {A B : Prop} (h1 : p → A) (h2 : ¬ p → B) : if decide p = true then A else B := by
  by_cases h : p
  · rw [if_pos (decide_eq_true h)]; exact h1 h
  · rw [decide_eq_false h, if_neg Bool.false_ne_true]; exact h2 h
theorem ifP {p : Prop} [Decidable p] {A B : Prop} (h : p) (h1 : A) : if decide p = true then A else B := by
  rw [if_pos (decide_eq_true h)]; exact h1
theorem ifN {p : Prop} [Decidable p] {A B : Prop} (h : ¬ p) (h1 : B) : if decide p = true then A else B := by
  rw [decide_eq_false h, if_neg Bool.false_ne_true]; exact h1
theorem ifb {c : Bool} {A B : Prop} (h1 : c = true → A) (h2 : c = false → B) : if c = true then A else B := by
  cases c with
  | true => rw [if_pos rfl]; exact h1 rfl
  | false => rw [if_neg Bool.false_ne_true]; exact h2 rfl
theorem ifbT {c : Bool} {A B : Prop} (h : c = true) (h1 : A) : if c = true then A else B := by rw [if_pos h]; exact h1
theorem ifbF {c : Bool} {A B : Prop} (h : c = false) (h1 : B) : if c = true then A else B := by rw [h, if_neg Bool.false_ne_true]; exact h1
/-! ### heaps -/
theorem viaS {H H' : Hp} {b : Addr} {o : HO} (s : Same H H') (h : H b = some o) : H' b = some o := s b o h
theorem same_new {H : Hp} {p : Addr} {o : HO} (h : H p = none) : Same H (upd H p o) := fun b x e => by
  rw [upd_ne (ne_of_none e h)]; exact e
/-- all but what stands at a is as it was -/
def But (a : Addr) (H H' : Hp) : Prop := ∀ b o, b ≠ a → H b = some o → H' b = some o
theorem viaB {H H' : Hp} {a b : Addr} {o : HO} (s : But a H H') (n : b ≠ a) (h : H b = some o) : H' b = some o := s b o n h
theorem But.refl (a : Addr) (H : Hp) : But a H H := fun _ _ _ h => h
theorem But.of {a : Addr} {H H' : Hp} (s : Same H H') : But a H H' := fun b o _ h => s b o h
theorem But.trans {a : Addr} {H H1 H2 : Hp} (s : But a H H1) (t : But a H1 H2) : But a H H2 := fun b o n h => t b o n (s b o n h)
theorem But.upd {a : Addr} {H H' : Hp} {o : HO} (s : But a H H') : But a H (upd H' a o) := fun b x n h => by
  rw [upd_ne n]; exact s b x n h
theorem But.new {a p : Addr} {H H' : Hp} {o : HO} (s : But a H H') (n : H' p = none) : But a H (L2.upd H' p o) := fun b x nb h => by
  have e := s b x nb h
  rw [upd_ne (ne_of_none e n)]; exact e
theorem sameN {p : Addr} {H H' : Hp} {o : HO} (s : Same H H') (n : H' p = none) : Same H (L2.upd H' p o) := fun b x h => by
  have e := s b x h
  rw [upd_ne (ne_of_none e n)]; exact e
theorem updK {H : Hp} {a b : Addr} {o u : HO} (n : b ≠ a) (h : H b = some u) : L2.upd H a o b = some u := by rw [upd_ne n]; exact h
/-- the pool of a law: a list of two numbers, the second small -/
def Pool (H : Hp) (a : Addr) (x y : Int) : Prop := H a = some (.lst [.int x, .int y]) ∧ 0 ≤ x ∧ 0 ≤ y ∧ y < 2147483647

local macro_rules | `(tactic| walk_at "ne") => `(tactic| first | assumption | (apply Ne.symm; assumption) | (refine ne_of_none ?_ (by assumption); walk_at "at") | (apply Ne.symm; refine ne_of_none ?_ (by assumption); walk_at "at"))
local macro_rules | `(tactic| walk_at "at") => `(tactic| first | assumption | exact upd_same | (refine updK ?n ?h; (case n => walk_at "ne"); (case h => walk_at "at")) | (refine viaS (by assumption) ?_; walk_at "at") | (refine viaB (by assumption) ?n ?h; (case n => walk_at "ne"); (case h => walk_at "at")))
local macro_rules | `(tactic| walk_at "side") => `(tactic| first | rfl | omega | decide | (refine ⟨by omega, by omega, ?_⟩; first | decide | omega) | (refine Or.inl ⟨by omega, by omega⟩) | (refine Or.inr ⟨by omega, by omega⟩) | exact ⟨by omega, by omega⟩)
/-- one step of a reading whose answers are plain -/
local macro_rules | `(tactic| walk_at "g1") => `(tactic| first | refine ⟨_, rfl, ?_⟩ | refine ⟨_, _, rfl, rfl, ?_⟩ | refine ⟨by walk_at "side", ?_⟩)
local macro_rules | `(tactic| walk_at "g") => `(tactic| repeat walk_at "g1")
theorem sz {n : Nat} (h : n ≤ 1000) : n ≤ sizeLine := Nat.le_of_lt (small1000 h)
theorem Pool.new {H : Hp} {p q : Addr} {x y : Int} {o : HO} (h : Pool H p x y) (n : H q = none) : Pool (upd H q o) p x y := ⟨by rw [upd_ne (ne_of_none h.1 n)]; exact h.1, h.2⟩
def rep (c L : Int) : Int := if (if c < L then c else L) > 1 then (if c < L then c else L) else 1
theorem rep_le {c L : Int} (h : 1 ≤ c) (h2 : c ≤ 63) : 1 ≤ rep c L ∧ rep c L ≤ c := by
  unfold rep
  by_cases d : c < L
  · simp only [if_pos d]; split <;> omega
  · simp only [if_neg d]; split <;> omega
theorem rep_lo {c L : Int} (h : 1 ≤ c) (h2 : c ≤ 63) : -(2 ^ 62) ≤ rep c L := by have := (rep_le (L := L) h h2).1; omega
theorem rep_hi {c L : Int} (h : 1 ≤ c) (h2 : c ≤ 63) : rep c L < 2 ^ 62 := by have := (rep_le (L := L) h h2).2; omega
theorem rep_i {c L : Int} {i : Nat} (h : 1 ≤ c) (h2 : c ≤ 63) (k : i < (rep c L).toNat) : i ≤ 63 := by have := (rep_le (L := L) h h2).2; omega
/-- a pool's own changes leave what stood ahead of it -/
theorem sameP {H H1 H2 H3 : Hp} {p : Addr} (s : Same H H1) (s1 : Same H1 H2) (n : H1 p = none) (b : But p H2 H3) : Same H H3 := fun c o e =>
  b c o (ne_of_none (s c o e) n) (s1 _ _ (s _ _ e))
theorem pick {xs : List V} {r : Int} (P : V → Prop) (h0 : 0 ≤ r) (h1 : r < (xs.length : Int)) (hP : ∀ v ∈ xs, P v) : ∃ v, atI xs r = some v ∧ P v := by
  obtain ⟨j, rfl⟩ : ∃ j : Nat, r = (j : Int) := ⟨r.toNat, by omega⟩
  have hj : j < xs.length := by omega
  exact ⟨xs[j], atI_nat (List.getElem?_eq_getElem hj), hP _ (List.getElem_mem hj)⟩
theorem cut63 {ns : List Int} (h : ns.length ≤ 63) : cutV (ns.map V.int) none (some 63) = ns.map V.int := by
  unfold cutV
  rw [show HT.sIx (ns.map V.int).length (ns.map V.int).length (some 63) = min 63 (ns.map V.int).length from HT.sIx_nat _ _ 63, HT.sIx_none]
  rw [List.drop_zero, Nat.sub_zero, List.length_map, Nat.min_eq_right h]
  exact List.take_of_length_le (by simp)
theorem qb {Q : VK} {H : Hp} {b b' : Bool} (q : Q (.bl b') H) (e : b = b') : Q (.bl b) H := e ▸ q
theorem qi {Q : VK} {H : Hp} {i j : Int} (q : Q (.int j) H) (e : i = j) : Q (.int i) H := e ▸ q
/-! ### enumerate over a text -/
def Ies (x : Str) : It := ⟨fun i _ => i < x.cps.size, fun i H v H' => ∃ T c, v = .ref T ∧ H T = none ∧ H' = upd H T (.tup [.int (i : Nat), .str ⟨#[c]⟩]) ∧ x.cps[i]? = some c, fun i _ => i = x.cps.size⟩
theorem turn_enumS {P : Program} {w : World} {K : PySem.W.Frag} {elts : List Expr} {kk : Nat} {tpos : Pos} (e it : Addr) (x : Str) (t : Tok) :
    Turn P w K (.Tuple elts kk tpos) (Ies x) [e, it] e (fun i h => (∃ old, IsEnum h e it ((i : Nat) : Int) old) ∧ h.IsStrIter it (strIterType x) x t i ∧ e ≠ it) where
  mem := by simp
  obj := fun i h st b hb => by
    obtain ⟨⟨old, he⟩, ⟨o, ho, hc, hd⟩, _⟩ := st
    have e' : b = e ∨ b = it := by simpa using hb
    rcases e' with z | z
    · rw [z]; exact ⟨_, he, fun v q => nomatch q⟩
    · rw [z]; exact ⟨o, ho, fun v q => by rw [hd] at q; cases q⟩
  keep := fun i h h' st k => let ⟨⟨old, he⟩, ⟨o, ho, r⟩, hne⟩ := st; ⟨⟨old, k e (by simp) _ he⟩, ⟨o, k it (by simp) o ho, r⟩, hne⟩
  item := by
    intro X hP hw hK hc i pins s σ H E I hf st hg
    subst hP hw hK
    obtain ⟨⟨old, he⟩, hit, hne⟩ := st
    have hel : e < s.heap.objs.size := Heap.lt_size he
    have hil : it < s.heap.objs.size := by obtain ⟨_, q, _⟩ := hit; exact Heap.lt_size q
    have hd : X.A.in1.handled = none := I.ok.hd hc
    have D : Draws X.prog X.w X.A.in1 it [it] x.cps.size (fun i v => ∃ c u, x.cps[i]? = some c ∧ v = .str ⟨#[c]⟩ u) (fun i h => h.IsStrIter it (strIterType x) x t i) := by
      unfold strIterType
      split
      · exact Draws.strAscii hd it x t
      · exact Draws.strWide hd it x t
    refine wpAny_pyNext_enum_itemD D he hit hg hne (by simpa using hne) fun v h' tk hv ho hit' hT hsz hk => ?_
    obtain ⟨c, u, hcx, rfl⟩ := hv
    refine ⟨_, rfl, wpAny_letOwnedTupleGo_enum (s := { s with heap := h', toks := tk + 1 }) ho fun h'' he' sb => ?_⟩
    have hT2 : h''.get? s.heap.objs.size = some { cls := .type "tuple", data := .seq #[.int i tk, .str ⟨#[c]⟩ u] } := (sb.2 _ (Nat.ne_of_gt hel)).trans hT
    have new : ObjOk X.prog X.w (upd H s.heap.objs.size (.tup [.int (i : Nat), .str ⟨#[c]⟩])) h'' s.heap.objs.size (.tup [.int (i : Nat), .str ⟨#[c]⟩]) :=
      ⟨by show 2 ≤ sizeLine; decide, [.int i tk, .str ⟨#[c]⟩ u], .cons ⟨_, rfl⟩ (.cons ⟨_, rfl⟩ .nil), ⟨_, hT2, rfl, _, rfl⟩⟩
    have I1 : Inv X pins σ (upd H s.heap.objs.size (.tup [.int (i : Nat), .str ⟨#[c]⟩])) { s with heap := h'', toks := tk + 1 } :=
      I.turnedNew (ch := [e, it]) (fun b ob hb q => (sb.2 b (fun z => hb (by simp [z]))).trans (hk b ob (fun z => hb (by simp [z])) (fun z => hb (by simp [z])) q)) hf (Nat.le_refl _) new
    refine ⟨.ref s.heap.objs.size, _, I1, rfl, ⟨_, c, rfl, I.hok.fresh (Nat.le_refl _), rfl, hcx⟩, ⟨⟨.str ⟨#[c]⟩ u, ?_⟩, ?_, hne⟩, fun b hb => ?_⟩
    · have e1 : ((i + 1 : Nat) : Int) = (i : Int) + 1 := by omega
      rw [e1]; exact he'
    · obtain ⟨o2, q2, r2⟩ := hit'
      exact ⟨o2, (sb.2 it (Ne.symm hne)).trans q2, r2⟩
    · have hb' : b < s.heap.objs.size := by
        have e' : b = e ∨ b = it := by simpa using hb
        rcases e' with z | z
        · rw [z]; exact hel
        · rw [z]; exact hil
      rw [upd_ne (Nat.ne_of_lt hb')]
      exact (hf b hb).1
  done := by
    intro X hP hw hK hc i pins s σ H E I hf st hg
    subst hP hw hK
    obtain ⟨⟨old, he⟩, hit, hne⟩ := st
    have hg' : i = x.cps.size := hg
    subst hg'
    have hd : X.A.in1.handled = none := I.ok.hd hc
    have D : Draws X.prog X.w X.A.in1 it [it] x.cps.size (fun i v => ∃ c u, x.cps[i]? = some c ∧ v = .str ⟨#[c]⟩ u) (fun i h => h.IsStrIter it (strIterType x) x t i) := by
      unfold strIterType
      split
      · exact Draws.strAscii hd it x t
      · exact Draws.strWide hd it x t
    obtain ⟨f0, f1, f2, f3, f4, f5⟩ := hf it (by simp)
    exact wpAny_pyNext_enum_endD D he hit fun h' eb => ⟨rfl, I.turned (t' := s.toks) (fun b o hb q => eb b o hb q) f0 f1 f3 f4 f5⟩
  self := fun A i s Q E st h => let ⟨⟨_, he⟩, _⟩ := st; wpAny_pyIter_enum he h
def iEnumS (ta : TA) : TI := fun σ H R => ta σ H fun vs H1 => ∃ x : Str, vs = [.str x] ∧ R (Ies x) H1
theorem pi_enumS {X : Cx} {e : Expr} {ta : TA} {p pos tpos : Pos} {elts : List Expr} {kk : Nat} (hg : Gl X "enumerate") (hm : X.mg "enumerate" = none) (ha : PA X [e] ta) (hs : starEach [e] X.env = [(false, eval e X.env)] := by rfl) :
    PI X (.Tuple elts kk tpos) (.Call (.Name "enumerate" p) [e] [] pos) (iEnumS ta) := by
  refine ⟨fun pins s σ H R I h => ?_⟩
  refine Call_ (ld_blt I hg hm boot_enumerate (PyProof.Rows.callWith_type1 (thn (ha.run pos pins s σ H _ I h) fun us s1 ⟨vs, H1, I1, r1, q1⟩ => ?_) hs rfl))
  obtain ⟨x, ex, q⟩ := q1
  subst ex
  cases r1 with
  | cons r rr =>
    cases rr
    obtain ⟨t, rfl⟩ := r
    refine call_enumerate_str fun h' he hit hsz hk => wpAny_pyIter_enum he ?_
    have I2 : Inv X pins σ H1 { s1 with heap := h' } := I1.kept (t' := s1.toks) hk
    refine ⟨s1.heap.objs.size + 1, [s1.heap.objs.size + 1, s1.heap.objs.size], _, _, H1, rfl, I2, turn_enumS (s1.heap.objs.size + 1) s1.heap.objs.size x t, ⟨⟨.none, he⟩, hit, Nat.succ_ne_self _⟩, fun b hb => ?_, q⟩
    have e' : b = s1.heap.objs.size + 1 ∨ b = s1.heap.objs.size := by simpa using hb
    have hle : s1.heap.objs.size ≤ b := by
      rcases e' with z | z
      · rw [z]; exact Nat.le_add_right _ _
      · rw [z]; exact Nat.le_refl _
    exact I1.fpOk hle (I1.hok.fresh hle)
theorem walk_enumS {z : Str} : Walk (Ies z) z.cps.size (fun _ => True) (YPair (fun i => some (.int (i : Nat))) (fun i => (z.cps[i]?).map fun c => .str ⟨#[c]⟩)) where
  goes := fun i H hi _ => hi
  stops := fun H _ => rfl
  yields := fun i H x H' hi _ y => by
    obtain ⟨T, c, rfl, hn, rfl, hc⟩ := y
    exact ⟨T, _, _, rfl, hn, rfl, rfl, by simp [hc]⟩
theorem walk_zipT {K : PySem.W.Frag} {a b : Addr} {xs ys : List V} {n : Nat} (hn : n = min xs.length ys.length) : Walk (RZ.ItzT K a b) n (fun H => SqT K H a xs ∧ SqT K H b ys) (YPair (fun i => xs[i]?) (fun i => ys[i]?)) where
  goes := fun i H hi h => by
    have h1 : i < xs.length := by omega
    have h2 : i < ys.length := by omega
    exact ⟨xs, ys, xs[i], ys[i], h.1, h.2, List.getElem?_eq_getElem h1, List.getElem?_eq_getElem h2⟩
  stops := fun H h => ⟨xs, ys, h.1, h.2, by omega⟩
  yields := fun i H x H' hi h y => by
    obtain ⟨T, x1, y1, rfl, hn', rfl, h1, h2⟩ := y
    exact ⟨T, x1, y1, rfl, hn', rfl, h1 xs h.1, h2 ys h.2⟩

theorem b01 (k : Bool) : -(2 ^ 64) < (if k then (1 : Int) else 0) ∧ (if k then (1 : Int) else 0) < 2 ^ 64 := by cases k <;> decide
theorem mixb (z : Int) : -(2 ^ 64) < z % 2147483647 ∧ z % 2147483647 < 2 ^ 64 := by omega
theorem sizeb (c : Int) (k : Bool) : 0 ≤ (if c < 0 then -c else c) * (if k then (1 : Int) else 0) := by
  cases k
  · simp
  · simp; split <;> omega

/-! ### the mathematics of bounds -/
def Dd (lo hi : Int) (t : Nat) : Int := (hi - 1) / 2 ^ t - lo / 2 ^ t
def StepIs (lo hi : Int) (s : Nat) : Prop := s ≤ 8 ∧ Dd lo hi s ≤ 15 ∧ ∀ t, t < s → 15 < Dd lo hi t
def Bd (lo hi : Int) : Prop := 0 ≤ lo ∧ lo < hi ∧ hi ≤ 4096
def Ex (lo hi : Int) (s : Nat) : Prop := StepIs lo hi s ∧ lo / 2 ^ s * 2 ^ s = lo ∧ ((hi - 1) / 2 ^ s + 1) * 2 ^ s = hi
theorem le8 {s : Nat} (h : s ≤ 8) : s = 0 ∨ s = 1 ∨ s = 2 ∨ s = 3 ∨ s = 4 ∨ s = 5 ∨ s = 6 ∨ s = 7 ∨ s = 8 := by omega
theorem StepIs.uniq {lo hi : Int} {s t : Nat} (h : StepIs lo hi s) (k : StepIs lo hi t) : s = t := by
  rcases Nat.lt_trichotomy s t with c | c | c
  · have := k.2.2 s c; have := h.2.1; omega
  · exact c
  · have := h.2.2 t c; have := k.2.1; omega
theorem pow_pos2 (s : Nat) : (0 : Int) < 2 ^ s := Int.pow_pos (by decide)
theorem over_eq (lo hi : Int) (s : Nat) : (hi + 1 * 2 ^ s - 1) / 2 ^ s - lo / 2 ^ s = Dd lo hi s + 1 := by
  have e : hi + 1 * 2 ^ s - 1 = (hi - 1) + 1 * 2 ^ s := by omega
  rw [e, Int.add_mul_ediv_right _ _ (Int.ne_of_gt (pow_pos2 s))]
  unfold Dd
  omega
theorem first_over (lo hi : Int) (s : Nat) : lo / 2 ^ s + (Dd lo hi s + 1) = (hi - 1) / 2 ^ s + 1 := by
  unfold Dd; omega
theorem dd8 {lo hi : Int} (b : Bd lo hi) : Dd lo hi 8 ≤ 15 := by
  obtain ⟨h1, h2, h3⟩ := b
  unfold Dd
  have e : (2 : Int) ^ 8 = 256 := by decide
  rw [e]; omega
/-- going up from nought: below s all are too many -/
theorem lt8 {lo hi : Int} {s : Nat} (b : Bd lo hi) (h : 15 < Dd lo hi s) (u : s ≤ 8) : s < 8 := by
  rcases Nat.lt_or_ge s 8 with c | c
  · exact c
  · have e : s = 8 := by omega
    subst e
    have := dd8 b
    omega
/-- what a shift asks -/
theorem p8 {s : Nat} (h : s ≤ 8) : (2 : Int) ^ s ≤ 256 := by
  rcases le8 h with e | e | e | e | e | e | e | e | e <;> subst e <;> decide
theorem na {x : Int} (h0 : 0 ≤ x) (h1 : x ≤ 100000) : x.natAbs < 2 ^ 64 := by omega
theorem div_le' {x : Int} {s : Nat} (h0 : 0 ≤ x) : 0 ≤ x / 2 ^ s ∧ x / 2 ^ s ≤ x :=
  ⟨Int.ediv_nonneg h0 (Int.le_of_lt (pow_pos2 s)), Int.ediv_le_self _ h0⟩
theorem bc {lo hi : Int} {s : Nat} (b : Bd lo hi) (h : s ≤ 8) : CPow (lo / 2 ^ s) (s : Int) := by
  have := div_le' (s := s) b.1
  have := b.2
  exact ⟨by omega, by omega, na (by omega) (by omega)⟩
theorem bc2 {lo hi : Int} {s : Nat} (b : Bd lo hi) (h : StepIs lo hi s) : CPow (lo / 2 ^ s + (Dd lo hi s + 1)) (s : Int) := by
  have h8 := h.1
  obtain ⟨b1, b2, b3⟩ := b
  have := div_le' (s := s) (x := hi - 1) (by omega)
  rw [first_over]
  exact ⟨by omega, by omega, na (by omega) (by omega)⟩
theorem dd0 (n : Int) (s : Nat) : Dd 0 n s + 1 = (n - 1) / 2 ^ s + 1 := by
  unfold Dd; rw [Int.zero_ediv]; omega
theorem bc3 {n : Int} {s : Nat} (h : StepIs 0 n s) (b : Bd 0 n) : CPow (Dd 0 n s + 1) (s : Int) := by
  have h8 := h.1
  obtain ⟨b1, b2, b3⟩ := b
  have := div_le' (s := s) (x := n - 1) (by omega)
  rw [dd0]
  exact ⟨by omega, by omega, na (by omega) (by omega)⟩
def Can (lo hi : Int) (s : Nat) : Prop := lo % 2 ^ s = 0 ∧ 9 ≤ (hi - lo) / 2 ^ s
def GH (lo hi : Int) (s : Nat) : Prop := s ≤ 8 ∧ (s = 0 ∨ Can lo hi s) ∧ ∀ t, s < t → t ≤ 8 → ¬ Can lo hi t
def mn (lo hi : Int) (s : Nat) : Int := if (hi - lo) / 2 ^ s < 16 then (hi - lo) / 2 ^ s else 16
theorem cmn {lo hi : Int} {s : Nat} (b : Bd lo hi) (h : s ≤ 8) : CPow (mn lo hi s) (s : Int) := by
  obtain ⟨b1, b2, b3⟩ := b
  have := div_le' (s := s) (x := hi - lo) (by omega)
  unfold mn
  refine ⟨by omega, by omega, na ?_ ?_⟩ <;> split <;> omega
theorem bl_int {a b : Int} : decide (V.int a = V.int b) = decide (a = b) := by
  by_cases h : a = b
  · subst h; simp
  · have : ¬ (V.int a = V.int b) := fun e => h (V.int.inj e)
    simp [h, this]
theorem t2_eqv {a b c d : Int} : PyData.eqv (.tuple [.int a, .int b]) (.tuple [.int c, .int d]) = true ↔ a = c ∧ b = d := by
  simp [PyData.eqv, PyData.eqvAll]
theorem t2_no {a b c d : Int} (e : PyData.eqv (.tuple [.int a, .int b]) (.tuple [.int c, .int d]) = false) (h1 : a = c) (h2 : b = d) : False := by
  rw [t2_eqv.mpr ⟨h1, h2⟩] at e; cases e
theorem dp2 {K : PySem.W.Frag} {H : Hp} {p : Addr} {a b : Int} (h : H p = some (.tup [.int a, .int b])) : Dp K H (.ref p) (.tuple [.int a, .int b]) :=
  .tup (.of h) (.cons (.int a) (.cons (.int b) .nil))
theorem t3_eqv {a b x c d y : Int} : PyData.eqv (.tuple [.int a, .int b, .int x]) (.tuple [.int c, .int d, .int y]) = true ↔ a = c ∧ b = d ∧ x = y := by
  simp [PyData.eqv, PyData.eqvAll]
theorem dp3 {K : PySem.W.Frag} {H : Hp} {p : Addr} {a b c : Int} (h : H p = some (.tup [.int a, .int b, .int c])) : Dp K H (.ref p) (.tuple [.int a, .int b, .int c]) :=
  .tup (.of h) (.cons (.int a) (.cons (.int b) (.cons (.int c) .nil)))

/-! ### things of any kind -/
inductive Kd (H : Hp) : V → Prop where
  | non : Kd H .non
  | bl (b : Bool) : Kd H (.bl b)
  | int (i : Int) : Kd H (.int i)
  | str (x : Str) : Kd H (.str x)
  | lst {p : Addr} {xs : List V} (e : H p = some (.lst xs)) : Kd H (.ref p)
  | tup {p : Addr} {xs : List V} (e : H p = some (.tup xs)) : Kd H (.ref p)
  | dk {p : Addr} {kvs : List (Key × V)} (e : H p = some (.dK kvs)) : Kd H (.ref p)
theorem Kd.same {H H' : Hp} {v : V} (k : Kd H v) (s : Same H H') : Kd H' v := by
  cases k with
  | non => exact .non
  | bl b => exact .bl b
  | int i => exact .int i
  | str x => exact .str x
  | lst e => exact .lst (s _ _ e)
  | tup e => exact .tup (s _ _ e)
  | dk e => exact .dk (s _ _ e)
def isI : V → Bool | .int _ => true | .bl _ => true | _ => false
def isB : V → Bool | .bl _ => true | _ => false
def isS : V → Bool | .str _ => true | _ => false
theorem Kd.int? {K : PySem.W.Frag} {H : Hp} {v : V} (k : Kd H v) : ∃ t, TyX K H v t ∧ PySem.W.kitOne K t (.type "int") = some (isI v) := by
  cases k with
  | non => exact ⟨_, .base .non, kit_ty (r := false) (by decide +kernel)⟩
  | bl b => exact ⟨_, .base (.bl b), kit_ty (r := true) (by decide +kernel)⟩
  | int i => exact ⟨_, .base (.int i), kit_ty (r := true) (by decide +kernel)⟩
  | str x => exact ⟨_, .base (.str x), kit_ty (r := false) (by decide +kernel)⟩
  | lst e => exact ⟨_, .base (.lst e), kit_ty (r := false) (by decide +kernel)⟩
  | tup e => exact ⟨_, .base (.tup e), kit_ty (r := false) (by decide +kernel)⟩
  | dk e => exact ⟨_, .base (.dK e), kit_ty (r := false) (by decide +kernel)⟩
theorem Kd.bool? {K : PySem.W.Frag} {H : Hp} {v : V} (k : Kd H v) : ∃ t, TyX K H v t ∧ PySem.W.kitOne K t (.type "bool") = some (isB v) := by
  cases k with
  | non => exact ⟨_, .base .non, kit_ty (r := false) (by decide +kernel)⟩
  | bl b => exact ⟨_, .base (.bl b), kit_ty (r := true) (by decide +kernel)⟩
  | int i => exact ⟨_, .base (.int i), kit_ty (r := false) (by decide +kernel)⟩
  | str x => exact ⟨_, .base (.str x), kit_ty (r := false) (by decide +kernel)⟩
  | lst e => exact ⟨_, .base (.lst e), kit_ty (r := false) (by decide +kernel)⟩
  | tup e => exact ⟨_, .base (.tup e), kit_ty (r := false) (by decide +kernel)⟩
  | dk e => exact ⟨_, .base (.dK e), kit_ty (r := false) (by decide +kernel)⟩
theorem Kd.str? {K : PySem.W.Frag} {H : Hp} {v : V} (k : Kd H v) : ∃ t, TyX K H v t ∧ PySem.W.kitOne K t (.type "str") = some (isS v) := by
  cases k with
  | non => exact ⟨_, .base .non, kit_ty (r := false) (by decide +kernel)⟩
  | bl b => exact ⟨_, .base (.bl b), kit_ty (r := false) (by decide +kernel)⟩
  | int i => exact ⟨_, .base (.int i), kit_ty (r := false) (by decide +kernel)⟩
  | str x => exact ⟨_, .base (.str x), kit_ty (r := true) (by decide +kernel)⟩
  | lst e => exact ⟨_, .base (.lst e), kit_ty (r := false) (by decide +kernel)⟩
  | tup e => exact ⟨_, .base (.tup e), kit_ty (r := false) (by decide +kernel)⟩
  | dk e => exact ⟨_, .base (.dK e), kit_ty (r := false) (by decide +kernel)⟩
/-- it is no tuple -/
inductive NoT (H : Hp) : V → Prop where
  | non : NoT H .non
  | bl (b : Bool) : NoT H (.bl b)
  | int (i : Int) : NoT H (.int i)
  | str (x : Str) : NoT H (.str x)
  | lst {p : Addr} {xs : List V} (e : H p = some (.lst xs)) : NoT H (.ref p)
  | dk {p : Addr} {kvs : List (Key × V)} (e : H p = some (.dK kvs)) : NoT H (.ref p)
theorem NoT.tup? {K : PySem.W.Frag} {H : Hp} {v : V} (k : NoT H v) : ∃ t, TyX K H v t ∧ PySem.W.kitOne K t (.type "tuple") = some false := by
  cases k with
  | non => exact ⟨_, .base .non, kit_ty (by decide +kernel)⟩
  | bl b => exact ⟨_, .base (.bl b), kit_ty (by decide +kernel)⟩
  | int i => exact ⟨_, .base (.int i), kit_ty (by decide +kernel)⟩
  | str x => exact ⟨_, .base (.str x), kit_ty (by decide +kernel)⟩
  | lst e => exact ⟨_, .base (.lst e), kit_ty (by decide +kernel)⟩
  | dk e => exact ⟨_, .base (.dK e), kit_ty (by decide +kernel)⟩
/-! ### texts of rights -/
def RT : Str := Str.ofString "rwlsnfxco"
def code (k : Nat) : Nat := [114, 119, 108, 115, 110, 102, 120, 99, 111].getD k 0
def one (c : Nat) : Str := ⟨#[c]⟩
theorem RT_size : RT.cps.size = 9 := by decide +kernel
theorem RT_get : ∀ k, k < 9 → RT.cps[k]? = some (code k) := by decide +kernel
theorem code_inj : ∀ j, j < 9 → ∀ k, k < 9 → code j = code k → j = k := by decide +kernel
def rcs (p : Nat → Bool) (i : Nat) : List Str := ((List.range i).filter p).map fun k => one (code k)
def rtx (p : Nat → Bool) : Str := Txt.join (Str.ofString "") (rcs p 9)
theorem joinL_nil : ∀ l : List (List Nat), TL.joinL [] l = l.flatten
  | [] => rfl
  | [p] => by simp [TL.joinL]
  | p :: q :: r => by
    show p ++ ([] ++ TL.joinL [] (q :: r)) = _
    rw [joinL_nil (q :: r)]; simp
theorem rtx_codes (p : Nat → Bool) : (rtx p).cps.toList = ((List.range 9).filter p).map code := by
  unfold rtx
  rw [TL.join_eq]
  show TL.tl (Str.join _ _) = _
  rw [TL.tl_join]
  have e : TL.tl (Str.ofString "") = [] := by decide +kernel
  rw [e, joinL_nil]
  unfold rcs
  generalize (List.range 9).filter p = l
  induction l with
  | nil => rfl
  | cons x r ih =>
    simp only [List.map_cons, List.flatten_cons] at *
    rw [ih]; rfl
theorem rtx_mem (p : Nat → Bool) {k : Nat} (hk : k < 9) : code k ∈ (rtx p).cps.toList ↔ p k = true := by
  rw [rtx_codes, List.mem_map]
  constructor
  · rintro ⟨j, hj, e⟩
    obtain ⟨h1, h2⟩ := List.mem_filter.mp hj
    have : j = k := code_inj j (List.mem_range.mp h1) k hk e
    subst this; exact h2
  · intro h
    exact ⟨k, List.mem_filter.mpr ⟨List.mem_range.mpr hk, h⟩, rfl⟩
theorem rcs_succ (p : Nat → Bool) (i : Nat) : rcs p (i + 1) = rcs p i ++ (if p i = true then [one (code i)] else []) := by
  unfold rcs
  rw [List.range_succ, List.filter_append, List.map_append]
  congr 1
  by_cases h : p i = true
  · simp [h]
  · simp [h]
theorem rcs_len (p : Nat → Bool) (i : Nat) : (rcs p i).length ≤ i := by
  unfold rcs
  rw [List.length_map]
  exact Nat.le_trans (List.length_filter_le _ _) (by rw [List.length_range]; exact Nat.le_refl _)
theorem rcs_one (p : Nat → Bool) (i : Nat) : ((rcs p i).map (·.length)).sum = (rcs p i).length := by
  unfold rcs
  generalize (List.range i).filter p = l
  induction l with
  | nil => rfl
  | cons x r ih =>
    simp only [List.map_cons, List.sum_cons, List.length_cons] at *
    rw [ih]
    show 1 + _ = _
    omega
theorem rcs_fit (p : Nat → Bool) : ((rcs p 9).map (·.length)).sum + (rcs p 9).length * (Str.ofString "").length ≤ 16777216 := by
  have e : (Str.ofString "").length = 0 := by decide +kernel
  rw [e, rcs_one]
  have := rcs_len p 9
  omega
theorem szn {n : Nat} (h : n < 1000) : n < sizeLine := small1000 (Nat.le_of_lt h)
/-- the right k is in a text -/
def hasR (r : Str) (k : Nat) : Bool := decide (code k ∈ r.cps.toList)
def hasG (r g : Str) : Bool := g.cps.toList.any fun c => decide (c ∈ r.cps.toList)
def G0 : Str := Str.ofString "rwlsn"
def G1 : Str := Str.ofString "x"
def G2 : Str := Str.ofString "co"
def OneW (r : Str) : Prop := ([G0, G1, G2].filter (hasG r)).length ≤ 1
def mask (p : Nat → Bool) (i : Nat) : List Int := ((List.range i).filter p).map fun k => (2 : Int) ^ k
def maskOf (r : Str) : Int := (mask (hasR r) 9).sum
theorem mask_succ (p : Nat → Bool) (i : Nat) : mask p (i + 1) = mask p i ++ (if p i = true then [(2 : Int) ^ i] else []) := by
  unfold mask
  rw [List.range_succ, List.filter_append, List.map_append]
  congr 1
  by_cases h : p i = true
  · simp [h]
  · simp [h]
theorem mask_len (p : Nat → Bool) (i : Nat) : (mask p i).length ≤ i := by
  unfold mask
  rw [List.length_map]
  exact Nat.le_trans (List.length_filter_le _ _) (by rw [List.length_range]; exact Nat.le_refl _)
theorem i0 (i : Nat) : (0 : Int) + (i : Int) = (i : Int) := by omega
theorem take_any {g r : Str} {i : Nat} (hi : i < g.cps.size) : (g.cps.toList.take (i + 1)).map (fun c => decide (c ∈ r.cps.toList)) = (g.cps.toList.take i).map (fun c => decide (c ∈ r.cps.toList)) ++ [decide (g.cps[i] ∈ r.cps.toList)] := by
  rw [List.take_add_one, List.map_append]
  congr 1
  simp [hi]
theorem wipe_in {σ : L2.St} {i : Nat} : ∀ {vs : List Nat}, i ∈ vs → (wipe σ vs)[i]? = if i < σ.length then some none else none
  | [], h => by cases h
  | a :: vs, h => by
    show ((wipe σ vs).set a none)[i]? = _
    by_cases e : a = i
    · subst e
      rw [List.getElem?_set_self']
      by_cases l : a < σ.length
      · rw [if_pos l, List.getElem?_eq_getElem (by rw [wipe_length]; exact l)]; rfl
      · rw [if_neg l, List.getElem?_eq_none (by rw [wipe_length]; omega)]; rfl
    · rw [List.getElem?_set_ne e]
      exact wipe_in (by rcases List.mem_cons.mp h with q | q; exact absurd q.symm e; exact q)
theorem wipe_set {σ : L2.St} {vs : List Nat} {j : Nat} {v : Option V} (h : j ∈ vs) : wipe (σ.set j v) vs = wipe σ vs := by
  refine List.ext_getElem? fun i => ?_
  by_cases c : i ∈ vs
  · rw [wipe_in c, wipe_in c, List.length_set]
  · have n : j ≠ i := fun e => c (e ▸ h)
    rw [wipe_out c, wipe_out c, List.getElem?_set_ne n]
theorem wipe_wipe {σ : L2.St} {vs : List Nat} : wipe (wipe σ vs) vs = wipe σ vs := by
  refine List.ext_getElem? fun i => ?_
  by_cases c : i ∈ vs
  · rw [wipe_in c, wipe_in c, wipe_length]
  · rw [wipe_out c]
theorem wp1 {σ : L2.St} {vs : List Nat} {j : Nat} {v : Option V} (h : j ∈ vs) : wipe ((wipe σ vs).set j v) vs = wipe σ vs := by rw [wipe_set h, wipe_wipe]
theorem wp2 {σ : L2.St} {vs : List Nat} {j k : Nat} {v u : Option V} (h : j ∈ vs) (h2 : k ∈ vs) : wipe (((wipe σ vs).set j v).set k u) vs = wipe σ vs := by rw [wipe_set h2, wipe_set h, wipe_wipe]
def bitp (m : Int) : Nat → Bool := fun k => decide (m / 2 ^ k % 2 = 1)
/-- what bits tell -/
def fAt (b : Int) : Int := b / 2 ^ 0 % 2 ^ 12
def fFirst (b : Int) : Int := b / 2 ^ 12 % 2 ^ 12
def fCnt (b : Int) : Int := b / 2 ^ 24 % 2 ^ 4 + 1
def fStep (b : Int) : Int := b / 2 ^ 28 % 2 ^ 4
def fRts (b : Int) : Int := b / 2 ^ 32 % 2 ^ 9
def fKind (b : Int) : Int := b / 2 ^ 41 % 2 ^ 4
def Tells (b : Int) : Prop := fStep b ≤ 8 ∧ (fStep b = 0 ∨ 9 ≤ fCnt b) ∧ (fFirst b + fCnt b) * 2 ^ (fStep b).toNat ≤ 4096
theorem fb (b : Int) : 0 ≤ fStep b ∧ fStep b ≤ 15 ∧ 1 ≤ fCnt b ∧ fCnt b ≤ 16 ∧ 0 ≤ fFirst b ∧ fFirst b ≤ 4095 := by
  unfold fStep fCnt fFirst; omega
theorem cpw {z s : Int} (h0 : 0 ≤ z) (h1 : z ≤ 10000000000000) (h2 : 0 ≤ s) (h3 : s ≤ 1000) : CPow z s := ⟨h2, by omega, by omega⟩
/-- the fields of a lawful marked word -/
def F5 (xs : List V) : Prop := ∃ (lo hi at' : Int) (r : Str) (kd : Int), xs = [.int lo, .int hi, .int at', .str r, .int kd] ∧ Bd lo hi ∧ (∃ s, Ex lo hi s) ∧ 0 ≤ at' ∧ at' ≤ 4095 ∧ 0 ≤ kd ∧ kd ≤ 15 ∧ r = rtx (hasR r) ∧ OneW r
def wl (a b c d e f : Int) : List Int := [a * 2 ^ 0, b * 2 ^ 12, c * 2 ^ 24, d * 2 ^ 28, e * 2 ^ 32, f * 2 ^ 41]
def wbits (lo hi at' mr kd : Int) (s : Nat) : Int := (wl at' (lo / 2 ^ s) (Dd lo hi s + 1 - 1) s mr kd).sum
def BW (z : Int) : Prop := 0 ≤ z ∧ z ≤ 10000000000000
theorem six_at {K : PySem.W.Frag} {pA pF pC pS pR pK : Addr} {a b c d e f : Int} {i : Nat} {x1 y1 : V} (hi : i < 6) (hx : [V.ref pA, .ref pF, .ref pC, .ref pS, .ref pR, .ref pK][i]? = some x1) (hy : [V.int a, .int b, .int c, .int d, .int e, .int f][i]? = some y1)
    (sA : ∀ H, SqT K H pA [.int 0, .int 12]) (sF : ∀ H, SqT K H pF [.int 12, .int 12]) (sC : ∀ H, SqT K H pC [.int 24, .int 4]) (sS : ∀ H, SqT K H pS [.int 28, .int 4]) (sR : ∀ H, SqT K H pR [.int 32, .int 9]) (sK : ∀ H, SqT K H pK [.int 41, .int 4])
    (ba : BW a) (bb : BW b) (bc : BW c) (bd : BW d) (be : BW e) (bf : BW f) :
    ∃ (p : Addr) (lo mn : Nat) (z : Int), x1 = .ref p ∧ (∀ H, SqT K H p [.int lo, .int mn]) ∧ lo ≤ 100 ∧ y1 = .int z ∧ BW z ∧ (wl a b c d e f).take (i + 1) = (wl a b c d e f).take i ++ [z * 2 ^ lo] := by
  have six : i = 0 ∨ i = 1 ∨ i = 2 ∨ i = 3 ∨ i = 4 ∨ i = 5 := by omega
  rcases six with h | h | h | h | h | h <;> subst h
  · exact ⟨pA, 0, 12, a, (Option.some.inj hx).symm, sA, by decide, (Option.some.inj hy).symm, ba, rfl⟩
  · exact ⟨pF, 12, 12, b, (Option.some.inj hx).symm, sF, by decide, (Option.some.inj hy).symm, bb, rfl⟩
  · exact ⟨pC, 24, 4, c, (Option.some.inj hx).symm, sC, by decide, (Option.some.inj hy).symm, bc, rfl⟩
  · exact ⟨pS, 28, 4, d, (Option.some.inj hx).symm, sS, by decide, (Option.some.inj hy).symm, bd, rfl⟩
  · exact ⟨pR, 32, 9, e, (Option.some.inj hx).symm, sR, by decide, (Option.some.inj hy).symm, be, rfl⟩
  · exact ⟨pK, 41, 4, f, (Option.some.inj hx).symm, sK, by decide, (Option.some.inj hy).symm, bf, rfl⟩
theorem mask_b (p : Nat → Bool) : ∀ i, i ≤ 9 → 0 ≤ (mask p i).sum ∧ (mask p i).sum < 2 ^ i
  | 0, _ => by unfold mask; simp
  | i + 1, h => by
    have ih := mask_b p i (by omega)
    rw [mask_succ, List.sum_append]
    have e : (2 : Int) ^ (i + 1) = 2 * 2 ^ i := by rw [Int.pow_succ]; omega
    rw [e]
    by_cases c : p i = true
    · simp only [if_pos c, List.sum_cons, List.sum_nil]; omega
    · simp only [if_neg c, List.sum_nil]; omega
theorem maskOf_b (r : Str) : 0 ≤ maskOf r ∧ maskOf r < 512 := by
  have := mask_b (hasR r) 9 (Nat.le_refl _)
  unfold maskOf; omega
instance (b : Int) : Decidable (Tells b) := by unfold Tells; infer_instance

/-! ### bits and fields there and back -/
theorem wb_eq (lo hi at' mr kd : Int) (s : Nat) : wbits lo hi at' mr kd s = at' + lo / 2 ^ s * 4096 + Dd lo hi s * 16777216 + (s : Int) * 268435456 + mr * 4294967296 + kd * 2199023255552 := by
  unfold wbits wl
  simp only [List.sum_cons, List.sum_nil]
  omega
theorem bits6 {a F D s m k : Int} (a0 : 0 ≤ a) (a1 : a ≤ 4095) (F0 : 0 ≤ F) (F1 : F ≤ 4095) (D0 : 0 ≤ D) (D1 : D ≤ 15) (s0 : 0 ≤ s) (s1 : s ≤ 8) (m0 : 0 ≤ m) (m1 : m < 512) (k0 : 0 ≤ k) (k1 : k ≤ 15) :
    fStep (a + F * 4096 + D * 16777216 + s * 268435456 + m * 4294967296 + k * 2199023255552) = s ∧ fFirst (a + F * 4096 + D * 16777216 + s * 268435456 + m * 4294967296 + k * 2199023255552) = F ∧ fCnt (a + F * 4096 + D * 16777216 + s * 268435456 + m * 4294967296 + k * 2199023255552) = D + 1 ∧
    fAt (a + F * 4096 + D * 16777216 + s * 268435456 + m * 4294967296 + k * 2199023255552) = a ∧ fRts (a + F * 4096 + D * 16777216 + s * 268435456 + m * 4294967296 + k * 2199023255552) = m ∧ fKind (a + F * 4096 + D * 16777216 + s * 268435456 + m * 4294967296 + k * 2199023255552) = k := by
  unfold fStep fFirst fCnt fAt fRts fKind
  rw [show (2 : Int) ^ 0 = 1 by decide, show (2 : Int) ^ 4 = 16 by decide, show (2 : Int) ^ 9 = 512 by decide, show (2 : Int) ^ 12 = 4096 by decide, show (2 : Int) ^ 24 = 16777216 by decide, show (2 : Int) ^ 28 = 268435456 by decide, show (2 : Int) ^ 32 = 4294967296 by decide, show (2 : Int) ^ 41 = 2199023255552 by decide]
  generalize hb : a + F * 4096 + D * 16777216 + s * 268435456 + m * 4294967296 + k * 2199023255552 = b
  have q1 : b / 4096 = F + 4096 * (D + 16 * (s + 16 * (m + 512 * k))) := by omega
  have q2 : b / 16777216 = D + 16 * (s + 16 * (m + 512 * k)) := by omega
  have q3 : b / 268435456 = s + 16 * (m + 512 * k) := by omega
  have q4 : b / 4294967296 = m + 512 * k := by omega
  have q5 : b / 2199023255552 = k := by omega
  rw [q1, q2, q3, q4, q5]
  refine ⟨?_, ?_, ?_, ?_, ?_, ?_⟩ <;> omega
theorem wb_dec {lo hi at' mr kd : Int} {s : Nat} (b : Bd lo hi) (e : Ex lo hi s) (a0 : 0 ≤ at') (a1 : at' ≤ 4095) (m0 : 0 ≤ mr) (m1 : mr < 512) (k0 : 0 ≤ kd) (k1 : kd ≤ 15) :
    0 ≤ wbits lo hi at' mr kd s ∧ Tells (wbits lo hi at' mr kd s) ∧ fFirst (wbits lo hi at' mr kd s) * 2 ^ (fStep (wbits lo hi at' mr kd s)).toNat = lo ∧ (fFirst (wbits lo hi at' mr kd s) + fCnt (wbits lo hi at' mr kd s)) * 2 ^ (fStep (wbits lo hi at' mr kd s)).toNat = hi ∧
    fAt (wbits lo hi at' mr kd s) = at' ∧ fRts (wbits lo hi at' mr kd s) = mr ∧ fKind (wbits lo hi at' mr kd s) = kd := by
  obtain ⟨⟨s8, e1, e2⟩, e3, e4⟩ := e
  obtain ⟨b1, b2, b3⟩ := b
  have dl := div_le' (s := s) b1
  have d0 : 0 ≤ Dd lo hi s := by
    unfold Dd
    have := Int.ediv_le_ediv (pow_pos2 s) (show lo ≤ hi - 1 by omega)
    omega
  have fo := first_over lo hi s
  have h9 : s = 0 ∨ 9 ≤ Dd lo hi s + 1 := by
    rcases Nat.eq_zero_or_pos s with c | c
    · exact .inl c
    · right
      have := e2 (s - 1) (by omega)
      clear e2 fo
      unfold Dd at *
      rcases le8 s8 with e | e | e | e | e | e | e | e | e <;> subst e <;> first | omega | (simp at *; omega)
  have ed : Dd lo hi s + 1 = (hi - 1) / 2 ^ s + 1 - lo / 2 ^ s := by omega
  rw [wb_eq]
  have eF : lo / 2 ^ s ≤ 4095 := by omega
  generalize hF : lo / 2 ^ s = F at *
  generalize hD : Dd lo hi s = D at *
  have s0 : (0 : Int) ≤ (s : Int) ∧ (s : Int) ≤ 8 := by omega
  have F0 : 0 ≤ F := dl.1
  obtain ⟨x1, x2, x3, x4, x5, x6⟩ := bits6 (a := at') (F := F) (D := D) (s := (s : Int)) (m := mr) (k := kd) a0 a1 F0 eF d0 e1 s0.1 s0.2 m0 m1 k0 k1
  have e5 : (F + (D + 1)) * 2 ^ s = hi := by rw [fo]; exact e4
  refine ⟨by omega, ⟨?_, ?_, ?_⟩, ?_, ?_, x4, x5, x6⟩
  · rw [x1]; omega
  · rw [x1, x3]; omega
  · rw [x1, x2, x3]
    show (F + (D + 1)) * 2 ^ s ≤ 4096
    rw [e5]; exact b3
  · rw [x1, x2]; exact e3
  · rw [x1, x2, x3]; exact e5
theorem R_ok : Str.ofString "r" = rtx (hasR (Str.ofString "r")) := by decide +kernel
theorem R_one : OneW (Str.ofString "r") := by unfold OneW; decide +kernel
theorem R_rtx : rtx (bitp (maskOf (Str.ofString "r"))) = Str.ofString "r" := by decide +kernel
theorem dp5 {K : PySem.W.Frag} {H : Hp} {p : Addr} {a b c d : Int} {r : Str} (h : H p = some (.tup [.int a, .int b, .int c, .str r, .int d])) : Dp K H (.ref p) (.tuple [.int a, .int b, .int c, .str r, .int d]) :=
  .tup (.of h) (.cons (.int a) (.cons (.int b) (.cons (.int c) (.cons (.str r) (.cons (.int d) .nil)))))
theorem d5_sh (a b c d : Int) (r : Str) (h : PyData.canLay0 (.str r) = true) : SeqAt.shaped (.tuple [.int a, .int b, .int c, .str r, .int d]) = true := by
  have e : PyData.canLay0 (.tuple [.int a, .int b, .int c, .str r, .int d]) = true := by
    simp only [PyData.canLay0, PyData.canLayAll0, Bool.true_and, Bool.and_true] at *
    exact h
  unfold SeqAt.shaped
  rw [e]
  simp [PyData.depth, PyData.depthAll]
theorem d5_refl (a b c d : Int) (r : Str) : PyData.eqv (.tuple [.int a, .int b, .int c, .str r, .int d]) (.tuple [.int a, .int b, .int c, .str r, .int d]) = true := by
  simp [PyData.eqv, PyData.eqvAll]

theorem mt_lcountB {X : Cx} : MtR X "list.count" (fun x xs H Q => ∃ (p : Addr) (bs : List Bool), x = .ref p ∧ xs = [.bl true] ∧ SqL X.K H p (bs.map V.bl) ∧ Q (.int ((bs.filter id).length : Nat)) H) := by
  intro pins s σ H x xs v us Q I rx rxs h
  obtain ⟨p, bs, rfl, rfl, hs, q⟩ := h
  cases rx
  obtain ⟨u, rfl, ru⟩ := rxs.one
  obtain rfl : u = Value.bool true := ru
  obtain ⟨its, rv, ⟨⟨cls, dd, data, sl⟩, n, ho, hc, hdn, hd⟩, hlen⟩ := I.list hs
  simp only at hc hd
  subst hc hd
  have hb := Vals.bls rv
  subst hb
  refine call_meets PySem.F.slot_list_count ⟨_, ho, rfl⟩ PySem.F.entry_list_count (PySem.F.args_list_count_2 _ _)
    (SeqAt.list_countAt p (bs.map Value.bool).toArray n dd sl (.bool true) (eqU (.bl true))) ⟨ho, fun y hy => mem_eqAt (x := .bl true) rfl rfl rv (by simp [flatV]) y (by simpa using hy), ?_⟩
  have ec : (bs.map Value.bool).toArray.toList.countP (eqU (.bl true)) = (bs.filter id).length := by
    show (bs.map Value.bool).countP (eqU (.bl true)) = _
    rw [List.countP_map, List.countP_eq_length_filter]
    congr 1
    refine List.filter_congr fun b _ => ?_
    cases b <;> rfl
  refine ⟨.int ((bs.filter id).length : Nat), H, I.tok _, ⟨s.toks, ?_⟩, q⟩
  show Value.int (((bs.map Value.bool).toArray.toList.countP (eqU (.bl true)) : Nat) : Int) s.toks = _
  rw [ec]
/-- bits that a marked word may have -/
def Law (b : Int) : Prop := Tells b ∧ OneW (rtx (bitp (fRts b)))
def W45 (b : Int) : Prop := 0 ≤ b ∧ b < 35184372088832

theorem bit_lift (b : Int) {i : Nat} (h : i < 9) : b / 2 ^ (32 + i) % 2 = fRts b / 2 ^ i % 2 := by
  unfold fRts
  rw [show (2 : Int) ^ 32 = 4294967296 by decide, show (2 : Int) ^ 9 = 512 by decide]
  rcases le8 (show i ≤ 8 by omega) with e | e | e | e | e | e | e | e | e <;> subst e
  · rw [show (2 : Int) ^ (32 + 0) = 4294967296 by decide, show (2 : Int) ^ 0 = 1 by decide]; omega
  · rw [show (2 : Int) ^ (32 + 1) = 8589934592 by decide, show (2 : Int) ^ 1 = 2 by decide]; omega
  · rw [show (2 : Int) ^ (32 + 2) = 17179869184 by decide, show (2 : Int) ^ 2 = 4 by decide]; omega
  · rw [show (2 : Int) ^ (32 + 3) = 34359738368 by decide, show (2 : Int) ^ 3 = 8 by decide]; omega
  · rw [show (2 : Int) ^ (32 + 4) = 68719476736 by decide, show (2 : Int) ^ 4 = 16 by decide]; omega
  · rw [show (2 : Int) ^ (32 + 5) = 137438953472 by decide, show (2 : Int) ^ 5 = 32 by decide]; omega
  · rw [show (2 : Int) ^ (32 + 6) = 274877906944 by decide, show (2 : Int) ^ 6 = 64 by decide]; omega
  · rw [show (2 : Int) ^ (32 + 7) = 549755813888 by decide, show (2 : Int) ^ 7 = 128 by decide]; omega
  · rw [show (2 : Int) ^ (32 + 8) = 1099511627776 by decide, show (2 : Int) ^ 8 = 256 by decide]; omega

theorem rtx_len (p : Nat → Bool) : (rtx p).cps.size ≤ 9 := by
  have e : (rtx p).cps.size = (rtx p).cps.toList.length := by simp
  rw [e, rtx_codes, List.length_map]
  exact Nat.le_trans (List.length_filter_le _ _) (by decide)
theorem code_ok : ∀ k, k < 9 → PyData.canLay0 (.str (one (code k))) = true := by decide +kernel
theorem rtx_ok (p : Nat → Bool) {c : Nat} (h : c ∈ (rtx p).cps.toList) : PyData.canLay0 (.str (one c)) = true := by
  rw [rtx_codes] at h
  obtain ⟨k, hk, rfl⟩ := List.mem_map.mp h
  exact code_ok k (List.mem_range.mp (List.mem_filter.mp hk).1)
theorem strs_lay : ∀ {l : List Nat}, (∀ c ∈ l, PyData.canLay0 (.str (one c)) = true) → PyData.canLayAll0 (l.map fun c => .str (one c)) = true
  | [], _ => by simp [PyData.canLayAll0]
  | c :: l, h => by
    have ih := strs_lay (l := l) fun x hx => h x (List.mem_cons_of_mem _ hx)
    simp only [List.map_cons, PyData.canLayAll0, ih, h c (List.mem_cons_self ..), Bool.and_self]
theorem strs_depth : ∀ l : List Nat, PyData.depthAll (l.map fun c => .str (one c)) = 0
  | [] => by simp [PyData.depthAll]
  | c :: l => by simp only [List.map_cons, PyData.depthAll, PyData.depth, strs_depth l]; rfl
theorem strs_shape {l : List Nat} (h : ∀ c ∈ l, PyData.canLay0 (.str (one c)) = true) : SeqAt.shaped (.list (l.map fun c => .str (one c))) = true := by
  have e : PyData.canLay0 (.list (l.map fun c => .str (one c))) = true := by
    simp only [PyData.canLay0]; exact strs_lay h
  unfold SeqAt.shaped
  rw [e]
  simp only [PyData.depth, strs_depth]; rfl
theorem dp_strs {K : PySem.W.Frag} {H : Hp} : ∀ l : List Nat, DpAll K H (l.map fun c => V.str (one c)) (l.map fun c => .str (one c))
  | [] => .nil
  | c :: l => .cons (.str (one c)) (dp_strs l)
theorem strs_eqv (l : List Nat) : PyData.eqv (.list (l.map fun c => .str (one c))) (.list []) = l.isEmpty := by
  cases l with
  | nil => rfl
  | cons c l => simp [PyData.eqv, PyData.eqvAll]
theorem hasG_iff (r g : Str) : (!(r.cps.toList.filter fun c => decide (c ∈ g.cps.toList)).isEmpty) = hasG r g := by
  unfold hasG
  rw [Bool.eq_iff_iff, List.any_eq_true]
  constructor
  · intro h
    cases e : r.cps.toList.filter fun c => decide (c ∈ g.cps.toList) with
    | nil => rw [e] at h; cases h
    | cons c l =>
      have m : c ∈ r.cps.toList.filter fun c => decide (c ∈ g.cps.toList) := by rw [e]; exact List.mem_cons_self ..
      obtain ⟨m1, m2⟩ := List.mem_filter.mp m
      exact ⟨c, of_decide_eq_true m2, decide_eq_true m1⟩
  · rintro ⟨c, m1, m2⟩
    have m : c ∈ r.cps.toList.filter fun c => decide (c ∈ g.cps.toList) := List.mem_filter.mpr ⟨of_decide_eq_true m2, decide_eq_true m1⟩
    cases e : r.cps.toList.filter fun c => decide (c ∈ g.cps.toList) with
    | nil => rw [e] at m; cases m
    | cons c l => rfl

/-! ### words and their fields there and back -/
theorem tw_eqv {m n : Bool} {a b : Int} : PyData.eqv (.tuple [.bool m, .int a]) (.tuple [.bool n, .int b]) = true ↔ m = n ∧ a = b := by
  simp [PyData.eqv, PyData.eqvAll]
theorem tw_no {m : Bool} {a b : Int} (e : PyData.eqv (.tuple [.bool m, .int a]) (.tuple [.bool m, .int b]) = false) (h : a = b) : False := by
  rw [tw_eqv.mpr ⟨rfl, h⟩] at e; cases e
theorem dpw {K : PySem.W.Frag} {H : Hp} {p : Addr} {m : Bool} {a : Int} (h : H p = some (.tup [.bl m, .int a])) : Dp K H (.ref p) (.tuple [.bool m, .int a]) :=
  .tup (.of h) (.cons (.bl m) (.cons (.int a) .nil))
theorem d5_eqv {a b c d a' b' c' d' : Int} {r r' : Str} : PyData.eqv (.tuple [.int a, .int b, .int c, .str r, .int d]) (.tuple [.int a', .int b', .int c', .str r', .int d']) = true ↔ a = a' ∧ b = b' ∧ c = c' ∧ r = r' ∧ d = d' := by
  simp [PyData.eqv, PyData.eqvAll]
theorem d5_no {a b c d : Int} {r : Str} (e : PyData.eqv (.tuple [.int a, .int b, .int c, .str r, .int d]) (.tuple [.int a, .int b, .int c, .str r, .int d]) = false) : False := by
  rw [d5_refl] at e; cases e
theorem rtx_congr {p q : Nat → Bool} (h : ∀ k, k < 9 → p k = q k) : rtx p = rtx q := by
  unfold rtx rcs
  rw [List.filter_congr fun k hk => h k (List.mem_range.mp hk)]
theorem hasR_rtx (p : Nat → Bool) {k : Nat} (h : k < 9) : hasR (rtx p) k = p k := by
  unfold hasR
  rw [Bool.eq_iff_iff, decide_eq_true_iff]
  exact rtx_mem p h
theorem rtx_self (p : Nat → Bool) : rtx p = rtx (hasR (rtx p)) := rtx_congr fun k h => (hasR_rtx p h).symm
theorem mask_congr {p q : Nat → Bool} (h : ∀ k, k < 9 → p k = q k) : mask p 9 = mask q 9 := by
  unfold mask
  rw [List.filter_congr fun k hk => h k (List.mem_range.mp hk)]
theorem maskOf_rtx (p : Nat → Bool) : maskOf (rtx p) = (mask p 9).sum := by
  unfold maskOf
  rw [mask_congr fun k h => hasR_rtx p h]
theorem mask512 : ∀ m : Fin 512, (mask (bitp (m.val : Int)) 9).sum = (m.val : Int) := by decide +kernel
theorem mask_bitp {m : Int} (h0 : 0 ≤ m) (h1 : m < 512) : (mask (bitp m) 9).sum = m := by
  have h := mask512 ⟨m.toNat, by omega⟩
  have e : ((m.toNat : Nat) : Int) = m := by omega
  rw [e] at h
  exact h
theorem rtx_can (p : Nat → Bool) : PyData.canLay0 (.str (rtx p)) = true := by
  simp only [PyData.canLay0, PyData.strOk]
  rw [Array.all_eq_true_iff_forall_mem]
  intro c hc
  have h := rtx_ok p (c := c) (by simpa using hc)
  simp only [PyData.canLay0, PyData.strOk] at h
  simpa [one] using h
structure WF (b lo hi at' : Int) (p : Nat → Bool) (kd : Int) (s : Nat) : Prop where
  bd : Bd lo hi
  ex : Ex lo hi s
  a0 : 0 ≤ at'
  a1 : at' ≤ 4095
  k0 : 0 ≤ kd
  k1 : kd ≤ 15
  ow : OneW (rtx p)
  wb : wbits lo hi at' (maskOf (rtx p)) kd s = b
theorem WF.f5 {b lo hi at' kd : Int} {p : Nat → Bool} {s : Nat} (W : WF b lo hi at' p kd s) : F5 [.int lo, .int hi, .int at', .str (rtx p), .int kd] :=
  ⟨lo, hi, at', _, kd, rfl, W.bd, ⟨s, W.ex⟩, W.a0, W.a1, W.k0, W.k1, rtx_self p, W.ow⟩
theorem wf_of {b : Int} (w : W45 b) (L : Law b) : ∃ (lo hi at' : Int) (p : Nat → Bool) (kd : Int) (s : Nat), [V.int (fFirst b * 2 ^ (fStep b).toNat), .int ((fFirst b + fCnt b) * 2 ^ (fStep b).toNat), .int (fAt b), .str (rtx (bitp (fRts b))), .int (fKind b)] = [.int lo, .int hi, .int at', .str (rtx p), .int kd] ∧ WF b lo hi at' p kd s := by
  obtain ⟨⟨t1, t2, t3⟩, ow⟩ := L
  obtain ⟨w0, w1⟩ := w
  have f := fb b
  have r0 : 0 ≤ fRts b := Int.emod_nonneg _ (by decide)
  have r1 : fRts b < 512 := Int.emod_lt_of_pos _ (by decide)
  have a0 : 0 ≤ fAt b := Int.emod_nonneg _ (by decide)
  have a1 : fAt b < 4096 := Int.emod_lt_of_pos _ (by decide)
  have k0 : 0 ≤ fKind b := Int.emod_nonneg _ (by decide)
  have k1 : fKind b < 16 := Int.emod_lt_of_pos _ (by decide)
  have sum : b = fAt b + fFirst b * 4096 + (fCnt b - 1) * 16777216 + fStep b * 268435456 + fRts b * 4294967296 + fKind b * 2199023255552 := by
    clear t1 t2 t3 ow f r0 r1 a0 a1 k0 k1
    unfold fAt fFirst fCnt fStep fRts fKind
    rw [show (2 : Int) ^ 0 = 1 by decide, show (2 : Int) ^ 4 = 16 by decide, show (2 : Int) ^ 9 = 512 by decide, show (2 : Int) ^ 12 = 4096 by decide, show (2 : Int) ^ 24 = 16777216 by decide, show (2 : Int) ^ 28 = 268435456 by decide, show (2 : Int) ^ 32 = 4294967296 by decide, show (2 : Int) ^ 41 = 2199023255552 by decide]
    omega
  obtain ⟨s, es⟩ : ∃ s : Nat, fStep b = (s : Int) := ⟨(fStep b).toNat, by omega⟩
  rw [es] at t1 t2 t3 sum ⊢
  have e1 : ((s : Int)).toNat = s := rfl
  rw [e1] at t3 ⊢
  generalize fFirst b = F at *
  generalize fCnt b = C at *
  have s8 : s ≤ 8 := by omega
  have core : Bd (F * 2 ^ s) ((F + C) * 2 ^ s) ∧ Ex (F * 2 ^ s) ((F + C) * 2 ^ s) s ∧ F * 2 ^ s / 2 ^ s = F ∧ Dd (F * 2 ^ s) ((F + C) * 2 ^ s) s + 1 = C := by
    have c9 : s = 0 ∨ 9 ≤ C := by omega
    clear sum es t2
    unfold Ex StepIs Dd Bd
    refine ⟨?_, ⟨⟨s8, ?_, fun t ht => ?_⟩, ?_, ?_⟩, ?_, ?_⟩
    · rcases le8 s8 with e | e | e | e | e | e | e | e | e <;> subst e <;> omega
    · rcases le8 s8 with e | e | e | e | e | e | e | e | e <;> subst e <;> omega
    · have t8 : t ≤ 8 := by omega
      rcases le8 s8 with e | e | e | e | e | e | e | e | e <;> subst e <;> rcases le8 t8 with e | e | e | e | e | e | e | e | e <;> subst e <;> first | omega | (simp at *; omega)
    all_goals (rcases le8 s8 with e | e | e | e | e | e | e | e | e <;> subst e <;> omega)
  refine ⟨_, _, _, bitp (fRts b), _, s, rfl, ⟨core.1, core.2.1, a0, by omega, k0, by omega, ow, ?_⟩⟩
  rw [wb_eq, core.2.2.1, maskOf_rtx, mask_bitp r0 r1]
  have := core.2.2.2
  omega
/-- one right less -/
def lessp (p : Nat → Bool) (i : Nat) : Nat → Bool := fun k => p k && decide (k ≠ i)
theorem less_mask (p : Nat → Bool) (i : Nat) (hp : p i = true) : ∀ n, (mask p n).sum = (mask (lessp p i) n).sum + (if i < n then (2 : Int) ^ i else 0)
  | 0 => by unfold mask; simp
  | n + 1 => by
    have ih := less_mask p i hp n
    rw [mask_succ, mask_succ, List.sum_append, List.sum_append, ih]
    unfold lessp
    rcases Nat.lt_trichotomy i n with c | c | c
    · have h1 : decide (n ≠ i) = true := decide_eq_true (by omega)
      rw [h1, Bool.and_true, if_pos c, if_pos (show i < n + 1 by omega)]
      omega
    · subst c
      have h1 : decide (i ≠ i) = false := decide_eq_false (by simp)
      rw [h1, Bool.and_false, if_pos hp, if_neg (Nat.lt_irrefl i), if_neg Bool.false_ne_true, if_pos (Nat.lt_succ_self i)]
      simp
    · have h1 : decide (n ≠ i) = true := decide_eq_true (by omega)
      rw [h1, Bool.and_true, if_neg (show ¬ i < n by omega), if_neg (show ¬ i < n + 1 by omega)]
      omega
theorem less_codes (p : Nat → Bool) {i : Nat} (hi : i < 9) : (((rtx p).cps.toList.filter fun c => !decide (V.str (one c) = V.str (one (code i)))).map one) = rcs (lessp p i) 9 := by
  rw [rtx_codes]
  unfold rcs lessp
  rw [List.filter_map, List.map_map, ← List.filter_filter]
  congr 1
  rw [List.filter_filter, List.filter_filter]
  refine List.filter_congr fun k hk => ?_
  have hk9 := List.mem_range.mp hk
  have e : decide (V.str (one (code k)) = V.str (one (code i))) = decide (k = i) := by
    rw [decide_eq_decide]
    constructor
    · intro h
      have h2 := V.str.inj h
      have h3 : code k = code i := by
        have h4 := congrArg (fun x : Str => x.cps.toList) h2
        simpa [one] using h4
      exact code_inj k hk9 i hi h3
    · intro h; rw [h]
  simp only [Function.comp]
  rw [e]
  by_cases c : k = i
  · simp [c]
  · simp [c]
theorem less_one {p : Nat → Bool} {i : Nat} (h : OneW (rtx p)) : OneW (rtx (lessp p i)) := by
  unfold OneW at *
  refine Nat.le_trans ?_ h
  have key : ∀ l : List Str, (l.filter (hasG (rtx (lessp p i)))).length ≤ (l.filter (hasG (rtx p))).length := by
    intro l
    induction l with
    | nil => exact Nat.le_refl _
    | cons g l ih =>
      have mono : hasG (rtx (lessp p i)) g = true → hasG (rtx p) g = true := by
        unfold hasG
        rw [List.any_eq_true, List.any_eq_true]
        rintro ⟨c, c1, c2⟩
        refine ⟨c, c1, decide_eq_true ?_⟩
        have c3 := of_decide_eq_true c2
        rw [rtx_codes] at c3 ⊢
        obtain ⟨k, k1, k2⟩ := List.mem_map.mp c3
        obtain ⟨k3, k4⟩ := List.mem_filter.mp k1
        refine List.mem_map.mpr ⟨k, List.mem_filter.mpr ⟨k3, ?_⟩, k2⟩
        unfold lessp at k4
        exact (Bool.and_eq_true_iff.mp k4).1
      rw [List.filter_cons, List.filter_cons]
      by_cases c : hasG (rtx (lessp p i)) g = true
      · rw [if_pos c, if_pos (mono c)]
        simp only [List.length_cons]
        omega
      · rw [if_neg c]
        split
        · simp only [List.length_cons]; omega
        · exact ih
  exact key _
theorem least_in {lo hi il ih : Int} {t s : Nat} (b : Bd lo hi) (e : Ex lo hi t) (h1 : lo ≤ il) (h2 : il < ih) (h3 : ih ≤ hi) (g : StepIs il ih s) : lo ≤ il / 2 ^ s * 2 ^ s ∧ ((ih - 1) / 2 ^ s + 1) * 2 ^ s ≤ hi := by
  obtain ⟨⟨t8, e1, e2⟩, e3, e4⟩ := e
  obtain ⟨b1, b2, b3⟩ := b
  have st : s ≤ t := by
    rcases Nat.lt_or_ge t s with c | c
    · have := g.2.2 t c
      exfalso
      clear e2 g
      unfold Dd at *
      rcases le8 t8 with e | e | e | e | e | e | e | e | e <;> subst e <;> omega
    · exact c
  have s8 := g.1
  clear e2 g
  unfold Dd at *
  rcases le8 t8 with e | e | e | e | e | e | e | e | e <;> subst e <;> rcases le8 s8 with e | e | e | e | e | e | e | e | e <;> subst e <;> first | omega | (simp at *; omega)
theorem least_ex {il ih : Int} {s : Nat} (b : Bd il ih) (g : StepIs il ih s) : Bd (il / 2 ^ s * 2 ^ s) (((ih - 1) / 2 ^ s + 1) * 2 ^ s) ∧ Ex (il / 2 ^ s * 2 ^ s) (((ih - 1) / 2 ^ s + 1) * 2 ^ s) s ∧ il / 2 ^ s * 2 ^ s ≤ il ∧ ih ≤ ((ih - 1) / 2 ^ s + 1) * 2 ^ s ∧ il / 2 ^ s * 2 ^ s / 2 ^ s = il / 2 ^ s ∧ Dd (il / 2 ^ s * 2 ^ s) (((ih - 1) / 2 ^ s + 1) * 2 ^ s) s = Dd il ih s := by
  obtain ⟨b1, b2, b3⟩ := b
  have s8 := g.1
  have g1 := g.2.1
  have g2 := g.2.2
  refine ⟨?_, ⟨⟨s8, ?_, fun t ht => ?_⟩, ?_, ?_⟩, ?_, ?_, ?_, ?_⟩
  · unfold Bd
    rcases le8 s8 with e | e | e | e | e | e | e | e | e <;> subst e <;> omega
  · unfold Dd at *
    clear g2 g
    rcases le8 s8 with e | e | e | e | e | e | e | e | e <;> subst e <;> omega
  · have g3 := g2 t ht
    have t8 : t ≤ 8 := by omega
    clear g2 g
    unfold Dd at *
    rcases le8 s8 with e | e | e | e | e | e | e | e | e <;> subst e <;> rcases le8 t8 with e | e | e | e | e | e | e | e | e <;> subst e <;> first | omega | (simp at *; omega)
  all_goals (clear g2 g; unfold Dd at *; rcases le8 s8 with e | e | e | e | e | e | e | e | e <;> subst e <;> omega)
theorem bc4 {lo hi : Int} {s : Nat} (b : Bd lo hi) (h : s ≤ 8) : CPow ((hi - 1) / 2 ^ s + 1) (s : Int) := by
  obtain ⟨b1, b2, b3⟩ := b
  have := div_le' (s := s) (x := hi - 1) (by omega)
  exact ⟨by omega, by omega, na (by omega) (by omega)⟩

/-! ### what is drawn: heaps -/
theorem seqT' {K : PySem.W.Frag} {H H' : Hp} {a : Addr} {xs : List V} (e : Same H H') (h : SqT K H a xs) : SqT K H' a xs := by
  rcases h with (h | ⟨o, h⟩) | h
  · exact .inl (.inl (e _ _ h))
  · exact .inl (.inr ⟨o, e _ _ h⟩)
  · exact .inr h
theorem Pool.same {H H' : Hp} {p : Addr} {x y : Int} (h : Pool H p x y) (s : Same H H') : Pool H' p x y := ⟨s _ _ h.1, h.2⟩
theorem But.free {H H' : Hp} {a q : Addr} {x y : Int} (b : But a H H') (P : Pool H' a x y) (n : H' q = none) : H q = none := by
  cases e : H q with
  | none => rfl
  | some o =>
    by_cases c : q = a
    · subst c; rw [P.1] at n; cases n
    · rw [b q o c e] at n; cases n
local macro_rules | `(tactic| walk_at "but") => `(tactic| first | assumption | exact But.refl _ _ | (refine But.trans ?_ (by assumption); walk_at "but") | (refine But.trans ?_ (But.of (by assumption)); walk_at "but") | (refine But.new ?_ (by assumption); walk_at "but") | (refine But.upd ?_; walk_at "but"))
local macro_rules | `(tactic| walk_at "same") => `(tactic| first | assumption | exact Same.refl _ | (refine Same.trans ?_ (by assumption); walk_at "same") | (refine sameN ?_ (by assumption); walk_at "same"))
/-! ### words as they lie in memory -/
def tup5 (b : Int) : List V := [.int (fFirst b * 2 ^ (fStep b).toNat), .int ((fFirst b + fCnt b) * 2 ^ (fStep b).toNat), .int (fAt b), .str (rtx (bitp (fRts b))), .int (fKind b)]
structure Wd (H : Hp) (q : Addr) (m : Bool) (b : Int) : Prop where
  at' : H q = some (.tup [.bl m, .int b])
  w : W45 b
  law : m = true → Law b
theorem Wd.same {H H' : Hp} {q : Addr} {m : Bool} {b : Int} (h : Wd H q m b) (s : Same H H') : Wd H' q m b := ⟨s _ _ h.at', h.w, h.law⟩
theorem Wd.ne {H : Hp} {q a : Addr} {m : Bool} {b x y : Int} (h : Wd H q m b) (P : Pool H a x y) : q ≠ a := by
  intro e; subst e
  have := h.at'
  rw [P.1] at this; cases this
theorem Wd.but {H H' : Hp} {q a : Addr} {m : Bool} {b : Int} (h : Wd H q m b) (s : But a H H') (n : q ≠ a) : Wd H' q m b := ⟨s _ _ n h.at', h.w, h.law⟩
theorem sum_ite (c : Bool) (z : Int) : (if c = true then [z] else []).sum = if c = true then z else 0 := by cases c <;> simp
theorem mask_val (p : Nat → Bool) : (mask p 9).sum = (if p 0 = true then 1 else 0) + (if p 1 = true then 2 else 0) + (if p 2 = true then 4 else 0) + (if p 3 = true then 8 else 0) + (if p 4 = true then 16 else 0) + (if p 5 = true then 32 else 0) + (if p 6 = true then 64 else 0) + (if p 7 = true then 128 else 0) + (if p 8 = true then 256 else 0) := by
  have e0 : (mask p 0).sum = 0 := by unfold mask; simp
  simp only [mask_succ, List.sum_append, sum_ite, e0]
  simp
theorem bit01 (c : Bool) (z : Int) : ∃ x : Int, (0 ≤ x ∧ x ≤ 1) ∧ (if c = true then z else 0) = z * x ∧ c = decide (x = 1) := by
  cases c
  · exact ⟨0, by omega, by simp, by decide⟩
  · exact ⟨1, by omega, by simp, by decide⟩
theorem bitp_mask (p : Nat → Bool) {k : Nat} (h : k < 9) : bitp ((mask p 9).sum) k = p k := by
  unfold bitp
  rw [mask_val]
  obtain ⟨x0, b0, e0, d0⟩ := bit01 (p 0) 1
  obtain ⟨x1, b1, e1, d1⟩ := bit01 (p 1) 2
  obtain ⟨x2, b2, e2, d2⟩ := bit01 (p 2) 4
  obtain ⟨x3, b3, e3, d3⟩ := bit01 (p 3) 8
  obtain ⟨x4, b4, e4, d4⟩ := bit01 (p 4) 16
  obtain ⟨x5, b5, e5, d5⟩ := bit01 (p 5) 32
  obtain ⟨x6, b6, e6, d6⟩ := bit01 (p 6) 64
  obtain ⟨x7, b7, e7, d7⟩ := bit01 (p 7) 128
  obtain ⟨x8, b8, e8, d8⟩ := bit01 (p 8) 256
  rw [e0, e1, e2, e3, e4, e5, e6, e7, e8]
  rcases le8 (show k ≤ 8 by omega) with e | e | e | e | e | e | e | e | e <;> subst e
  · rw [d0, decide_eq_decide]; omega
  · rw [d1, decide_eq_decide]; omega
  · rw [d2, decide_eq_decide]; omega
  · rw [d3, decide_eq_decide]; omega
  · rw [d4, decide_eq_decide]; omega
  · rw [d5, decide_eq_decide]; omega
  · rw [d6, decide_eq_decide]; omega
  · rw [d7, decide_eq_decide]; omega
  · rw [d8, decide_eq_decide]; omega
theorem WF.all {b lo hi at' kd : Int} {p : Nat → Bool} {s : Nat} (W : WF b lo hi at' p kd s) : W45 b ∧ Law b ∧ tup5 b = [.int lo, .int hi, .int at', .str (rtx p), .int kd] ∧ fKind b = kd ∧ fAt b = at' ∧ fRts b = (mask p 9).sum := by
  have mb := maskOf_b (rtx p)
  have D := wb_dec W.bd W.ex W.a0 W.a1 mb.1 mb.2 W.k0 W.k1
  have e := wb_eq lo hi at' (maskOf (rtx p)) kd s
  rw [W.wb] at D e
  obtain ⟨d0, t, e1, e2, e3, e4, e5⟩ := D
  have er : rtx (bitp (fRts b)) = rtx p := by
    rw [e4, maskOf_rtx]
    exact rtx_congr fun k h => bitp_mask p h
  have x := W.ex
  obtain ⟨⟨s8, x1, x2⟩, x3, x4⟩ := x
  obtain ⟨b1, b2, b3⟩ := W.bd
  have dl := div_le' (s := s) b1
  have w := W.a1
  have k := W.k1
  refine ⟨⟨d0, ?_⟩, ⟨t, ?_⟩, ?_, e5, e3, by rw [e4, maskOf_rtx]⟩
  · clear x2 x3 x4 t e1 e2 e3 e4 e5 er
    have : lo / 2 ^ s ≤ 4095 := by omega
    omega
  · rw [er]; exact W.ow
  · unfold tup5
    rw [e1, e2, e3, er, e5]
theorem rtx_inj {p q : Nat → Bool} (h : rtx p = rtx q) {k : Nat} (hk : k < 9) : p k = q k := by
  rw [← hasR_rtx p hk, ← hasR_rtx q hk, h]
theorem ow_sub {p q : Nat → Bool} (h : ∀ k, k < 9 → q k = true → p k = true) (o : OneW (rtx p)) : OneW (rtx q) := by
  unfold OneW at *
  refine Nat.le_trans ?_ o
  have key : ∀ l : List Str, (l.filter (hasG (rtx q))).length ≤ (l.filter (hasG (rtx p))).length := by
    intro l
    induction l with
    | nil => exact Nat.le_refl _
    | cons g l ih =>
      have mono : hasG (rtx q) g = true → hasG (rtx p) g = true := by
        unfold hasG
        rw [List.any_eq_true, List.any_eq_true]
        rintro ⟨c, c1, c2⟩
        refine ⟨c, c1, decide_eq_true ?_⟩
        have c3 := of_decide_eq_true c2
        rw [rtx_codes] at c3 ⊢
        obtain ⟨k, k1, k2⟩ := List.mem_map.mp c3
        obtain ⟨k3, k4⟩ := List.mem_filter.mp k1
        exact List.mem_map.mpr ⟨k, List.mem_filter.mpr ⟨k3, h k (List.mem_range.mp k3) k4⟩, k2⟩
      rw [List.filter_cons, List.filter_cons]
      by_cases c : hasG (rtx q) g = true
      · rw [if_pos c, if_pos (mono c)]
        simp only [List.length_cons]
        omega
      · rw [if_neg c]
        split
        · simp only [List.length_cons]; omega
        · exact ih
  exact key _
/-- the rights to cells and f alone go together -/
theorem ow_low {p : Nat → Bool} (h : ∀ k, k < 9 → 6 ≤ k → p k = false) : OneW (rtx p) := by
  have e : OneW (rtx fun k => decide (k < 6)) := by unfold OneW; decide +kernel
  refine ow_sub (fun k hk hp => ?_) e
  rcases Nat.lt_or_ge k 6 with c | c
  · exact decide_eq_true c
  · rw [h k hk c] at hp; cases hp
/-- a text of rights that is good -/
def RV (v : V) : Prop := ∃ p, v = .str (rtx p) ∧ OneW (rtx p)
theorem rv {s : Str} (h : s = rtx (hasR s)) (o : OneW s) : RV (.str s) := ⟨hasR s, congrArg V.str h, h ▸ o⟩
theorem rvd {s : Str} (h : (decide (s = rtx (hasR s)) && decide (([G0, G1, G2].filter (hasG s)).length ≤ 1)) = true) : RV (.str s) := by
  rw [Bool.and_eq_true] at h
  exact rv (of_decide_eq_true h.1) (of_decide_eq_true (p := ([G0, G1, G2].filter (hasG s)).length ≤ 1) h.2)
/-- one word within another -/
def Within (b c : Int) : Prop := fFirst c * 2 ^ (fStep c).toNat ≤ fFirst b * 2 ^ (fStep b).toNat ∧ (fFirst b + fCnt b) * 2 ^ (fStep b).toNat ≤ (fFirst c + fCnt c) * 2 ^ (fStep c).toNat ∧ (∀ k, k < 9 → bitp (fRts b) k = true → bitp (fRts c) k = true) ∧ (fKind b = fKind c ∨ (fKind c = 0 ∧ fKind b ≠ 2))
theorem Within.refl (b : Int) : Within b b := ⟨Int.le_refl _, Int.le_refl _, fun _ _ h => h, .inl rfl⟩
theorem sub_iff {p q : Nat → Bool} : (∀ c ∈ (rtx p).cps.toList, c ∈ (rtx q).cps.toList) ↔ ∀ k, k < 9 → p k = true → q k = true := by
  constructor
  · intro h k hk hp
    exact (rtx_mem q hk).mp (h _ ((rtx_mem p hk).mpr hp))
  · intro h c hc
    rw [rtx_codes] at hc
    obtain ⟨k, hk, rfl⟩ := List.mem_map.mp hc
    obtain ⟨k1, k2⟩ := List.mem_filter.mp hk
    have k9 := List.mem_range.mp k1
    exact (rtx_mem q k9).mpr (h k k9 k2)
theorem WF.uniq {b lo hi at' kd lo' hi' a' kd' : Int} {p p' : Nat → Bool} {s s' : Nat} (W : WF b lo hi at' p kd s) (W' : WF b lo' hi' a' p' kd' s') : lo = lo' ∧ hi = hi' ∧ at' = a' ∧ rtx p = rtx p' ∧ kd = kd' ∧ s = s' := by
  have e := W.all.2.2.1.symm.trans W'.all.2.2.1
  injection e with g1 e
  injection e with g2 e
  injection e with g3 e
  injection e with g4 e
  injection e with g5 _
  have h1 := V.int.inj g1
  have h2 := V.int.inj g2
  refine ⟨h1, h2, V.int.inj g3, V.str.inj g4, V.int.inj g5, ?_⟩
  have x := W.ex.1
  rw [h1, h2] at x
  exact x.uniq W'.ex.1
theorem WF.within {b c lo hi at' kd lo' hi' a' kd' : Int} {p p' : Nat → Bool} {s s' : Nat} (W : WF b lo hi at' p kd s) (W' : WF c lo' hi' a' p' kd' s') : Within b c ↔ lo' ≤ lo ∧ hi ≤ hi' ∧ (∀ k, k < 9 → p k = true → p' k = true) ∧ (kd = kd' ∨ (kd' = 0 ∧ kd ≠ 2)) := by
  have e := W.all.2.2.1
  have e' := W'.all.2.2.1
  unfold tup5 at e e'
  injection e with g1 e
  injection e with g2 e
  injection e with g3 e
  injection e with g4 e
  injection e with g5 _
  injection e' with h1 e'
  injection e' with h2 e'
  injection e' with h3 e'
  injection e' with h4 e'
  injection e' with h5 _
  unfold Within
  rw [V.int.inj g1, V.int.inj g2, V.int.inj g5, V.int.inj h1, V.int.inj h2, V.int.inj h5]
  have r1 : ∀ k, k < 9 → bitp (fRts b) k = p k := fun k hk => rtx_inj (V.str.inj g4) hk
  have r2 : ∀ k, k < 9 → bitp (fRts c) k = p' k := fun k hk => rtx_inj (V.str.inj h4) hk
  constructor
  · rintro ⟨a1, a2, a3, a4⟩
    exact ⟨a1, a2, fun k hk hp => by rw [← r2 k hk]; exact a3 k hk (by rw [r1 k hk]; exact hp), a4⟩
  · rintro ⟨a1, a2, a3, a4⟩
    exact ⟨a1, a2, fun k hk hp => by rw [r2 k hk]; exact a3 k hk (by rw [← r1 k hk]; exact hp), a4⟩
def andp (p q : Nat → Bool) : Nat → Bool := fun k => p k && q k
theorem bitp_nat (n k : Nat) : bitp (n : Int) k = n.testBit k := by
  unfold bitp
  rw [Nat.testBit_eq_decide_div_mod_eq, decide_eq_decide]
  have e : (n : Int) / 2 ^ k % 2 = ((n / 2 ^ k % 2 : Nat) : Int) := by
    rw [Int.natCast_emod, Int.natCast_ediv, Int.natCast_pow]; rfl
  rw [e]; omega
theorem mask_and (p q : Nat → Bool) : Builtin.bitAnd ((mask p 9).sum) ((mask q 9).sum) = (mask (andp p q) 9).sum := by
  have hp := mask_b p 9 (Nat.le_refl _)
  have hq := mask_b q 9 (Nat.le_refl _)
  rw [PyProof.Rows.bitAnd_pp hp.1 hq.1]
  have ep : (((mask p 9).sum.toNat : Nat) : Int) = (mask p 9).sum := by omega
  have eq : (((mask q 9).sum.toNat : Nat) : Int) = (mask q 9).sum := by omega
  have lt : (mask p 9).sum.toNat &&& (mask q 9).sum.toNat < 512 := Nat.lt_of_le_of_lt Nat.and_le_left (by omega)
  rw [← mask_bitp (m := (((mask p 9).sum.toNat &&& (mask q 9).sum.toNat : Nat) : Int)) (by omega) (by omega)]
  rw [mask_congr fun k hk => ?_]
  rw [bitp_nat, Nat.testBit_and, ← bitp_nat, ← bitp_nat, ep, eq, bitp_mask p hk, bitp_mask q hk]
  rfl
theorem WF.lohi {b lo hi at' kd : Int} {p : Nat → Bool} {s : Nat} (W : WF b lo hi at' p kd s) : fFirst b * 2 ^ (fStep b).toNat = lo ∧ (fFirst b + fCnt b) * 2 ^ (fStep b).toNat = hi := by
  have e := W.all.2.2.1
  unfold tup5 at e
  injection e with g1 e
  injection e with g2 e
  exact ⟨V.int.inj g1, V.int.inj g2⟩
theorem mask_sub (p q : Nat → Bool) : Builtin.bitAnd ((mask p 9).sum) ((mask q 9).sum) = (mask p 9).sum ↔ ∀ k, k < 9 → p k = true → q k = true := by
  rw [mask_and]
  constructor
  · intro h k hk hp
    have e : bitp ((mask (andp p q) 9).sum) k = bitp ((mask p 9).sum) k := by rw [h]
    rw [bitp_mask _ hk, bitp_mask _ hk, hp] at e
    unfold andp at e
    exact (Bool.and_eq_true_iff.mp e).2
  · intro h
    rw [mask_congr fun k hk => ?_]
    unfold andp
    cases e : p k
    · rfl
    · rw [h k hk e]; rfl

theorem made_eq {lo hi : Int} {s : Nat} (x : Ex lo hi s) : (hi - lo) / 2 ^ s - 1 = Dd lo hi s := by
  obtain ⟨h1, h2, h3⟩ := x
  have p := pow_pos2 s
  have e : hi - lo = ((hi - 1) / 2 ^ s + 1 - lo / 2 ^ s) * 2 ^ s := by
    rw [Int.sub_mul, h2, h3]
  rw [e, Int.mul_ediv_cancel _ (Int.ne_of_gt p)]
  unfold Dd; omega
theorem made_step {p : Nat → Bool} {j : Nat} {b z : Int} {c : Bool} (hc : c = p j) (h : b = z + (mask p j).sum * 4294967296) : b + (if c = true then (1 : Int) else 0) * 2 ^ (32 + (j : Int)).toNat = z + (mask p (j + 1)).sum * 4294967296 := by
  have e : (32 + (j : Int)).toNat = 32 + j := by omega
  rw [e, Int.pow_add, show (2 : Int) ^ 32 = 4294967296 by decide, mask_succ, List.sum_append, sum_ite, hc, h, Int.add_mul]
  cases p j with
  | false => simp
  | true =>
    rw [if_pos rfl, if_pos rfl, Int.one_mul]
    omega
theorem with_fin {A P G : Prop} (h : A → P) (k : (A → P) → G) : G := k h

theorem RL_get : ∀ k, k < 6 → (Str.ofString "rwlsnf").cps[k]? = some (code k) := by decide +kernel
theorem RL_size : (Str.ofString "rwlsnf").cps.size = 6 := by decide +kernel
theorem rcs_congr {p q : Nat → Bool} {i : Nat} (h : ∀ k, k < i → p k = q k) : rcs p i = rcs q i := by
  unfold rcs
  rw [List.filter_congr fun k hk => h k (List.mem_range.mp hk)]
def setp (p : Nat → Bool) (i : Nat) (c : Bool) : Nat → Bool := fun k => if k = i then c else p k
theorem rcs_set (p : Nat → Bool) (i : Nat) (c : Bool) : rcs (setp p i c) (i + 1) = rcs p i ++ (if c = true then [one (code i)] else []) := by
  rw [rcs_succ, rcs_congr (p := setp p i c) (q := p) fun k hk => by unfold setp; rw [if_neg (by omega)]]
  unfold setp
  rw [if_pos rfl]
def lowp (p : Nat → Bool) : Nat → Bool := fun k => p k && decide (k < 6)
theorem rcs_low (p : Nat → Bool) : rcs p 6 = rcs (lowp p) 9 := by
  rw [rcs_succ (lowp p) 8, rcs_succ (lowp p) 7, rcs_succ (lowp p) 6]
  have h6 : lowp p 6 = false := by unfold lowp; simp
  have h7 : lowp p 7 = false := by unfold lowp; simp
  have h8 : lowp p 8 = false := by unfold lowp; simp
  rw [h6, h7, h8]
  simp only [Bool.false_eq_true, if_false, List.append_nil]
  refine rcs_congr fun k hk => ?_
  unfold lowp
  rw [decide_eq_true hk, Bool.and_true]
theorem ow_lowp (p : Nat → Bool) : OneW (rtx (lowp p)) := ow_low fun k _ h => by
  unfold lowp
  rw [decide_eq_false (by omega), Bool.and_false]
theorem rcs_fit6 (p : Nat → Bool) : ((rcs p 6).map (·.length)).sum + (rcs p 6).length * (Str.ofString "").length ≤ 16777216 := by
  rw [rcs_low]; exact rcs_fit _
theorem join_low (p : Nat → Bool) : Txt.join (Str.ofString "") (rcs p 6) = rtx (lowp p) := by
  rw [rcs_low]; rfl

theorem with_finW {A P : Int → Int → Hp → Prop} {G : Prop} (h : ∀ lo hi H, A lo hi H → P lo hi H) (k : (∀ lo hi H, A lo hi H → P lo hi H) → G) : G := k h
theorem small_ex {lo hi : Int} (h1 : lo < hi) (h2 : hi - lo ≤ 16) : ∃ s, Ex lo hi s := by
  refine ⟨0, ⟨by omega, ?_, fun t ht => absurd ht (Nat.not_lt_zero t)⟩, ?_, ?_⟩
  · unfold Dd; simp; omega
  · simp
  · simp
theorem W45_of {n : Nat} (h : n < 35184372088832) : W45 (n : Int) := by unfold W45; omega
theorem sub_nodup : ∀ {L l : List Nat}, l.Sublist L → L.Nodup → l = L.filter (fun k => decide (k ∈ l)) := by
  intro L l h
  induction h with
  | slnil => intro _; rfl
  | @cons l L a h ih =>
    intro n
    obtain ⟨n1, n2⟩ := List.nodup_cons.mp n
    have na : a ∉ l := fun z => n1 (h.subset z)
    rw [List.filter_cons, if_neg (by simpa using na)]
    exact ih n2
  | @cons_cons l L a h ih =>
    intro n
    obtain ⟨n1, n2⟩ := List.nodup_cons.mp n
    rw [List.filter_cons, if_pos (by simp)]
    congr 1
    refine (ih n2).trans (List.filter_congr fun k hk => ?_)
    have nk : k ≠ a := fun z => n1 (z ▸ hk)
    rw [decide_eq_decide]
    simp [nk]
theorem sub_rtx {p : Nat → Bool} {l : List Nat} (h : l.Sublist (rtx p).cps.toList) : ∃ q : Nat → Bool, (∀ k, k < 9 → q k = true → p k = true) ∧ l.map one = rcs q 9 := by
  rw [rtx_codes] at h
  obtain ⟨l', h1, rfl⟩ := List.sublist_map_iff.mp h
  have h2 : l'.Sublist (List.range 9) := h1.trans List.filter_sublist
  have e := sub_nodup h2 List.nodup_range
  refine ⟨fun k => decide (k ∈ l'), fun k _ hk => ?_, ?_⟩
  · have m := h1.subset (of_decide_eq_true hk)
    exact (List.mem_filter.mp m).2
  · unfold rcs
    rw [List.map_map, ← e]
    rfl
theorem sub_snoc {l L : List Nat} {i c : Nat} (h : l.Sublist (L.take i)) (e : L[i]? = some c) : (l ++ [c]).Sublist (L.take (i + 1)) := by
  rw [List.take_add_one, e]
  exact h.append (List.Sublist.refl _)
theorem sub_skip {l L : List Nat} {i : Nat} (h : l.Sublist (L.take i)) : l.Sublist (L.take (i + 1)) := by
  rw [List.take_add_one]
  exact h.trans (List.sublist_append_left _ _)
theorem sub_len {l : List Nat} {i : Nat} {p : Nat → Bool} (h : l.Sublist ((rtx p).cps.toList.take i)) : l.length < 1000 := by
  have h1 := h.length_le
  rw [List.length_take] at h1
  have := rtx_len p
  have e : (rtx p).cps.toList.length = (rtx p).cps.size := by simp
  omega

theorem ex1648 : ∃ s, Ex 16 48 s := ⟨1, ⟨by decide, by decide, fun t ht => by
  have : t = 0 := by omega
  subst this; decide⟩, by decide, by decide⟩
theorem take_all {α : Type} {l : List α} {n : Nat} (h : n = l.length) : l.take n = l := by rw [h, List.take_length]
theorem size_len (z : Str) : z.cps.size = z.cps.toList.length := by simp
theorem strs_fit {l : List Nat} (h : l.length < 1000) : (((l.map one)).map (·.length)).sum + (l.map one).length * (Str.ofString "").length ≤ 16777216 := by
  have e : (Str.ofString "").length = 0 := by decide +kernel
  have e2 : ((l.map one).map (·.length)).sum = l.length := by
    clear h e
    induction l with
    | nil => rfl
    | cons x r ih =>
      simp only [List.map_cons, List.sum_cons, List.length_cons] at *
      rw [ih]
      show 1 + _ = _
      omega
  rw [e, e2]
  omega
theorem filt_nil {l : List Nat} {f : Nat → Bool} : (l.filter f).isEmpty = true ↔ ∀ c ∈ l, ¬ f c = true := by
  rw [List.isEmpty_iff, List.filter_eq_nil_iff]
/-! ### an error that is kept behind its suite -/
/-- at a: an exception of the class cls, its own dict at d -/
def kept (a : Addr) (cls : Value) (d : Option Addr) : HO := .ext fun h => ∃ oe, h.get? a = some oe ∧ Zc cls d oe ∧ ∃ vs, oe.data = .fields vs
theorem kept_ok {P : Program} {w : World} {H : Hp} {h : Heap} {a : Addr} {cls : Value} {d : Option Addr} {oe : Obj} {vs : Array Value} (e : h.get? a = some oe) (z : Zc cls d oe) (hd : oe.data = .fields vs) : ObjOk P w H h a (kept a cls d) :=
  ⟨⟨oe, e, z, vs, hd⟩, ⟨oe, e⟩, fun _ _ ⟨o, e1, r⟩ k => ⟨o, k o e1, r⟩⟩
theorem Inv.track {X : Cx} {pins : List (Addr × Obj)} {σ : L2.St} {H : Hp} {s : Shared} {a : Addr} {cls : Value} {d : Option Addr} {oe : Obj} {vs : Array Value} (I : Inv X pins σ H s)
    (e : s.heap.get? a = some oe) (z : Zc cls d oe) (hd : oe.data = .fields vs) (na : H a = none) (n0 : X.s_0.heap.get? a = none) (nL : a ≠ X.env.locals) (np : ∀ p ∈ X.pn ++ pins, p.1 ≠ a) :
    Inv X pins σ (upd H a (kept a cls d)) s := by
  refine ⟨I.ok, I.os, I.bare, ⟨I.base.keep, I.base.slot, fun b o q n hx => ?_, I.base.there, fun b xs q => ?_, fun b o u q => ?_, fun b ps q => ?_⟩, I.loc, I.cell, ?_, fun x c q => ?_, fun p hp => ?_, fun b o q => ?_, I.len⟩
  · have nb : b ≠ a := fun y => by rw [y, n0] at q; cases q
    rw [upd_ne nb]
    exact I.base.free b o q n hx
  · have q' := I.base.tups b xs q
    rw [upd_ne (ne_of_none q' na)]; exact q'
  · have q' := I.base.frzs b o u q
    rw [upd_ne (ne_of_none q' na)]; exact q'
  · obtain ⟨more, q'⟩ := I.base.tbls b ps q
    exact ⟨more, by rw [upd_ne (ne_of_none q' na)]; exact q'⟩
  · rw [upd_ne (Ne.symm nL)]; exact I.free
  · have nc : c ≠ a := fun y => by
      obtain ⟨v, o, e1, e2⟩ := I.cell x c q
      rw [y, e] at e1
      cases e1
      rw [hd] at e2
      cases e2
    rw [upd_ne nc]; exact I.freeC x c q
  · obtain ⟨p1, p2, p3, p4, p5⟩ := I.pin p hp
    exact ⟨p1, by rw [upd_ne (np p hp)]; exact p2, p3, p4, p5⟩
  · by_cases hb : b = a
    · subst hb
      rw [upd_same] at q
      cases q
      exact kept_ok e z hd
    · rw [upd_ne hb] at q
      exact (I.hok b o q).stay (fun _ _ _ y => y) (fun c hc => by rw [upd_ne (ne_of_none hc na)]; exact hc) fun c xs hc => by rw [upd_ne (ne_of_none hc na)]; exact hc
/-- what the clause 'except x as n' wishes of an exception of the body, where the error is kept -/
def wKp (K : PySem.W.Frag) (c : Value) (i : Nat) (ts : Addr → Value → Option Addr → TS) (Wout : WX) (D : Ends) : WX := fun cls d σ H =>
  ∃ b, PySem.W.exmOne K cls c = some b ∧ (b = true → ∀ a, H a = none → ts a cls d { nx := fun σ' H' => D.nx (σ'.set i none) (upd H' a (kept a cls d)), rt := fun v H' => D.rt v (upd H' a (kept a cls d)), bk := fun σ' H' => D.bk (σ'.set i none) (upd H' a (kept a cls d)), ct := fun σ' H' => D.ct (σ'.set i none) (upd H' a (kept a cls d)) } (σ.set i (some (.ref a))) H) ∧
    (b = false → Wout cls d σ H)
section
variable {X : Cx} {x n : Str} {c : Value} {i : Nat} {body suite : List Stmt} {b₀ : Stmt} {np pos pos' : Pos} {tb : WX → TS} {ts : Addr → Value → Option Addr → TS} {Wout : WX}
theorem ps_try_keep (hs : X.stack = X.env :: X.outer) (hex : X.ex = []) (hf : X.env.frame = some X.env.locals) (hN : X.N.Nodup) (hi : X.N[i]? = some n) (hln : X.env.kindOf n = some .local) (hc : Names X x c) (tk : Takes X Wout)
    (hb : ∀ (W : WX) (pn : List (Addr × Obj)) (xe : Value → Shared → Prop), Takes (X.tr pn xe) W → PassesOwn (model X.prog X.w) X.A X.env xe → PSs (X.tr pn xe) body (tb W))
    (hsu : ∀ (a : Addr) (oe : Obj) (cls : Value) (d : Option Addr) (pn : List (Addr × Obj)), Zc cls d oe → (∃ vs, oe.data = .fields vs) → PSs (X.suite a ((a, oe) :: pn)) (b₀ :: suite) (ts a cls d)) :
    PS X (.Try body [.ExceptHandler (some (.Name x np)) (some n) (b₀ :: suite) pos'] [] [] pos) (fun D σ H => tb (wKp X.K c i ts Wout D) D σ H) := by
  refine ⟨fun pins s σ H D I h => ?_⟩
  have ok := I.ok
  have hfr : X.A.frames = some (X.env :: X.outer) := by rw [ok.frames, hs]
  have hloc : Loc X.env.scope n := .inl hln
  refine wpAny_Try_except ?_
  refine wpAny_mono ((hb (wKp X.K c i ts Wout D) (X.pn ++ pins) (fun e s₁ => wpAny (model X.prog X.w) X.A (noteFrame e X.env) (fun _ s₂ => wpAny (model X.prog X.w) X.A (setFlight e none) (fun _ s₃ =>
    wpAny (model X.prog X.w) X.A (handleBy e X.env [.ExceptHandler (some (.Name x np)) (some n) (b₀ :: suite) pos']) (SP X pins D) X.xe s₃) X.xe s₂) X.xe s₁) (fun u s' xx => ?_) PassesOwn.looking).run [] s σ H D (I.toTry _) h) (fun f s1 hsp => ?_) (fun e s1 he => he)
  · obtain ⟨a, B, sI, pins', σ', H', cls, d, rfl, J', nb, up, sky, na, os, ag, b, hb1, hyes, hno⟩ := xx
    have J : Inv X pins σ' H' sI := J'.ofTry ok
    have sky' : Sky B (X.env :: X.outer) a (Zc cls d) X.env.locals s'.heap := by rw [← hs]; exact sky
    show wpAny (model X.prog X.w) X.A (noteFrame (.ref a) X.env) _ _ _
    refine Sky.land Zc.steady hfr hf sky' fun h3 fl3 up3 => ?_
    have J3 : Inv X pins σ' H' { s' with heap := h3 } := J.landed nb fl3.1 (up.trans up3) os ag
    obtain ⟨oe3, vs3, he3, hz3, hd3⟩ := fl3.there
    have notFr : ∀ {h : Heap} {o : Obj} {vs : Array Value}, h.FunFrames B (X.env :: X.outer) → h.get? a = some o → o.data = .fields vs → a ∉ frs (X.env :: X.outer) := fun {h o vs} ff e dd hm => by
      obtain ⟨_, o', e', hnf⟩ := ff.mem hm
      rw [e] at e'; cases e'
      exact hnf _ dd
    have nfr := notFr fl3.2.2.1 he3 hd3
    have nL : a ≠ X.env.locals := fun z => nfr (List.mem_filterMap.mpr ⟨X.env, List.mem_cons_self, by rw [hf, z]⟩)
    have nF : a ∉ X.fs := fun hm => by
      obtain ⟨e, he, q⟩ := List.mem_filterMap.mp hm
      exact nfr (List.mem_filterMap.mpr ⟨e, List.mem_cons_of_mem _ he, q⟩)
    have nI : sI.heap.get? a = none := by
      cases e : sI.heap.get? a with
      | none => rfl
      | some o =>
        have z := nb a o e (by rw [hs]; exact nfr)
        rw [fl3.2.1] at z
        cases z
    have n0 : X.s_0.heap.get? a = none := by
      cases e : X.s_0.heap.get? a with
      | none => rfl
      | some o =>
        obtain ⟨o', e'⟩ := J.base.there a o e (by rw [hex]; exact fun z => nomatch z)
        rw [nI] at e'
        cases e'
    have npin : ∀ p ∈ X.pn ++ pins, p.1 ≠ a := fun p hp z => by
      obtain ⟨e, _⟩ := J.pin p hp
      rw [z, nI] at e
      cases e
    have S3 := J3.suite he3 hd3 na nL nF
    refine wpAny_handleBy_cons (codeAny_handlers_test ?_) (by intro q; cases q)
    have LT : PySem.W.Looks (model X.prog X.w) h3 (typeOf (.ref a)) cls := fun A Q E s k q => wpAny_typeOf_ref (k _ _ he3) (by rw [hz3.1]; exact q)
    have LM := PySem.W.exm_one (M := model X.prog X.w) (J3.kIn) LT hb1
    have test : ∀ {Q : Value → Shared → Prop} {E : Value → Shared → Prop}, Q c { s' with heap := h3 } → wpAny (model X.prog X.w) (X.A.mark (some (.ref a))) (eval (.Name x np) X.env) Q E { s' with heap := h3 } := fun {Q E} q => by
      obtain ⟨hg, hdbg, hm | ⟨hm, hv, hnn⟩⟩ := hc
      · exact ld_glob (X := X.suite a ((a, oe3) :: (X.pn ++ pins))) S3 hg hm q hdbg
      · exact ld_blt (X := X.suite a ((a, oe3) :: (X.pn ++ pins))) S3 hg hm hv q hnn hdbg
    refine test (LM.here ?_)
    cases b with
    | true =>
      refine codeAny_handlers_suite_as ?_
      refine HandSPX.lands_againZ fl3 fun h4 fl4 up4 => ?_
      have J4 : Inv X pins σ' H' { s' with heap := h4 } := J.landed nb fl4.1 ((up.trans up3).trans up4) os ag
      obtain ⟨oe4, vs4, he4, hz4, hd4⟩ := fl4.there
      have S4 := J4.suite he4 hd4 na nL nF
      refine store_ok (X := X.suite a ((a, oe4) :: (X.pn ++ pins))) (v := .ref a) S4 hN hi hloc rfl (fun s5 S5 => ?_) (.inr hln)
      refine wpAny_mono ((hsu a oe4 cls d (X.pn ++ pins) hz4 ⟨_, hd4⟩).run [] s5 _ H' _ S5 (hyes rfl a na)) (fun f s6 hsp => ?_) (fun _ _ z => False.elim z)
      have end_ : ∀ {σ6 : L2.St} {H6 : Hp} {Q : Shared → Prop}, Inv (X.suite a ((a, oe4) :: (X.pn ++ pins))) [] σ6 H6 s6 → (∀ s7, Inv X pins (σ6.set i none) (upd H6 a (kept a cls d)) s7 → Q s7) →
          wpAny (model X.prog X.w) X.A (do bindName X.env n .none; unbindBehindTheSuite X.env n pos') (fun _ s7 => Q s7) X.xe s6 := fun {σ6 H6 Q} S6 hq => by
        obtain ⟨p1, p2, _⟩ := S6.pin (a, oe4) (List.mem_append.mpr (.inl List.mem_cons_self))
        exact gone_ok (My.Inv.track (S6.unsuite ok) p1 hz4 hd4 p2 n0 nL npin) hN hi hln hq
      cases f with
      | next =>
        obtain ⟨σ6, H6, S6, q6⟩ := hsp
        exact end_ S6 fun s7 J7 => ⟨_, _, J7, q6⟩
      | brk =>
        obtain ⟨σ6, H6, S6, q6⟩ := hsp
        exact end_ S6 fun s7 J7 => ⟨_, _, J7, q6⟩
      | cont =>
        obtain ⟨σ6, H6, S6, q6⟩ := hsp
        exact end_ S6 fun s7 J7 => ⟨_, _, J7, q6⟩
      | ret u =>
        obtain ⟨v6, σ6, H6, S6, r6, q6⟩ := hsp
        exact end_ S6 fun s7 J7 => ⟨_, _, _, J7, r6, q6⟩
    | false =>
      show wpAny _ X.A (handleBy (.ref a) X.env []) _ _ _
      refine wpAny_handleBy_nil ?_
      obtain ⟨k1, k2, k3, oe, vs, T, oT, ts', he, hz, hd, h1, hr⟩ := id fl3
      unfold PySem.passOn
      refine wpAny_bind (wpAny_field he hd h1 ?_)
      rw [if_neg (show ¬ ((Value.ref T == Value.none) = true) from by simp)]
      have fin : wpAny (model X.prog X.w) X.A (setFlight (.ref a) X.env.frame) (fun _ s4 => wpAny (model X.prog X.w) X.A (throw (.ref a) : Sem Flow) (SP X pins D) X.xe s4) X.xe { s' with heap := h3 } := by
        rw [hf]
        refine HandSPX.setFlight_upZ fl3 fun h4 hh4 up4 => wpAny_throw (tk _ _ ?_)
        exact ⟨a, B, sI, pins, σ', H', cls, d, rfl, J, nb, (up.trans up3).trans up4, .inr (.inr (by rw [hs]; exact hh4)), na, os, ag, hno rfl⟩
      first
        | exact wpAny_bind (wpAny_pure (wpAny_bind fin))
        | exact wpAny_bind fin
  · cases f with
    | next =>
      obtain ⟨σ', H', J', q⟩ := hsp
      exact wpAny_execs_nil ⟨σ', H', J'.ofTry ok, q⟩
    | brk =>
      obtain ⟨σ', H', J', q⟩ := hsp
      exact ⟨σ', H', J'.ofTry ok, q⟩
    | cont =>
      obtain ⟨σ', H', J', q⟩ := hsp
      exact ⟨σ', H', J'.ofTry ok, q⟩
    | ret u =>
      obtain ⟨v, σ', H', J', r, q⟩ := hsp
      exact ⟨v, σ', H', J'.ofTry ok, r, q⟩
end
/-! ### isinstance of a kept error -/
/-- what the written part says of the class of an error -/
structure ErrC (K : PySem.W.Frag) (C : Addr) : Prop where
  hg : PySem.W.findIn K (.ref C) "__getattribute__" = some (some (.builtin "BaseException.__getattribute__"))
  hk : PySem.W.findIn K (.ref C) "__getattr__" = some none
  hs : PySem.W.subIn K (.ref C) (.type "BaseException") = some true
  hd : PySem.W.hasDictIn K C = true
  ha : PySem.W.findIn K (.ref C) "__class__" = some (some (.builtin "object.__class__"))
  hn : PySem.W.specialIn K (.builtin "object.__class__") "__get__" = some (some (.builtin "getset_descriptor.__get__"))
  ht : PySem.W.takesIn K (.builtin "object.__class__") = some true
  hm : PySem.W.mroIn K C (.type "object") = some true
theorem kept_at {X : Cx} {pins : List (Addr × Obj)} {σ : L2.St} {H : Hp} {s : Shared} {a C d : Addr} {fs : List (Str × V)} (I : Inv X pins σ H s) (e : H a = some (kept a (.ref C) (some d))) (ed : H d = some (.xd fs)) :
    ∃ oe od, PySem.W.InstAt s.heap a oe C (some od) := by
  obtain ⟨⟨oe, h1, hz, vs, hd⟩, _⟩ := (show ObjOk X.prog X.w H s.heap a (kept a (.ref C) (some d)) from I.hok a _ e)
  obtain ⟨mA, hns, _⟩ := (show ObjOk X.prog X.w H s.heap d (.xd fs) from I.hok d _ ed)
  obtain ⟨od, _, _, ho, _⟩ := hns
  exact ⟨oe, od, h1, hz.1, by unfold PySem.W.notCls; rw [hd] <;> rfl, by rw [hz.2]; exact ho⟩
theorem ErrC.kit {K : PySem.W.Frag} {C x : Addr} {ox : Obj} {od : Option Obj} (E : ErrC K C) : PySem.W.KitX K (.ref x) (.ref C) (fun h => PySem.W.InstAt h x ox C od) :=
  PySem.W.kitx_exc (by obtain ⟨cd, hc, _⟩ := PySem.W.any_some E.hd; rw [hc]; rfl) E.hg E.hk E.hs E.ha E.hn E.ht E.hm
/-- isinstance(e, c), e a kept error of the class C -/
def rIsX (K : PySem.W.Frag) : List V → Hp → VK → Prop := fun xs H Q => ∃ (a C d : Addr) (fs : List (Str × V)) (c : V) (u : Value) (b : Bool), xs = [.ref a, c] ∧ H a = some (kept a (.ref C) (some d)) ∧ H d = some (.xd fs) ∧ ErrC K C ∧ ClsV c u ∧ PySem.W.kitOne K (.ref C) u = some b ∧ Q (.bl b) H
/-- isinstance(e, (c1, c2, ..)) -/
def rIsXT (K : PySem.W.Frag) : List V → Hp → VK → Prop := fun xs H Q => ∃ (a C d : Addr) (fs : List (Str × V)) (tp : Addr) (cs : List V) (us : List Value) (b : Bool), xs = [.ref a, .ref tp] ∧ H a = some (kept a (.ref C) (some d)) ∧ H d = some (.xd fs) ∧ ErrC K C ∧ H tp = some (.tup cs) ∧ Paired ClsV cs us ∧ PySem.W.kitAny K (.ref C) us = some b ∧ Q (.bl b) H
section
variable {X : Cx}
theorem call_isX : CallR X (.builtin "isinstance") (rIsX X.K) := by
  intro pins s σ H xs us Q I r h
  obtain ⟨a, C, d, fs, c, u, b, rfl, ea, ed, E, k, e, q⟩ := h
  obtain ⟨u1, u2, rfl, r1, r2⟩ := vals2 r
  have e2 := k.eq r2
  subst e2
  cases (show u1 = Value.ref a from r1)
  obtain ⟨oe, od, J⟩ := kept_at I ea ed
  exact PySem.W.kia_one E.kit I.kIn J e (fun z => nomatch z) fun tk => ⟨.bl b, H, I.tok tk, rfl, q⟩
theorem call_isXT : CallR X (.builtin "isinstance") (rIsXT X.K) := by
  intro pins s σ H xs us Q I r h
  obtain ⟨a, C, d, fs, tp, cs, ws, b, rfl, ea, ed, E, hT, k, e, q⟩ := h
  obtain ⟨u1, u2, rfl, r1, r2⟩ := vals2 r
  cases (show u1 = Value.ref a from r1)
  cases (show u2 = Value.ref tp from r2)
  obtain ⟨oe, od, J⟩ := kept_at I ea ed
  obtain ⟨_, its, rv, o, h1, h2, n, h3⟩ := (show ObjOk X.prog X.w H s.heap tp (.tup cs) from I.hok tp _ hT)
  have e3 := ClsV.all k rv
  subst e3
  obtain ⟨oc, od', dt, sl⟩ := o
  simp only at h2 h3
  subst h2 h3
  exact PySem.W.kia_tup E.kit I.kIn J h1 e (fun z => nomatch z) fun tk => ⟨.bl b, H, I.tok tk, rfl, q⟩
end
/-! ### defs that raise, called by name -/
structure CalX (P : Program) (w : World) (K : PySem.W.Frag) (mg : Str → Option Value) (base : Heap) (x : Str) (k : Nat) (ps : List Str) (sp : Sp) : Prop where
  ex : ∃ (f : Addr) (fd : FuncData), FnOk P w K mg base (L2.CX P w) k f fd ps sp ∧ mg x = some (.ref f) ∧ PySem.W.keepIn K (.ref f) = true ∧ Binds K fd ps []
theorem pe_calX {X : Cx} {x : Str} {k : Nat} {ps : List Str} {sp : Sp} {e : Expr} {es : List Expr} {t : TA} {W : WX} {p pos : Pos} (C : CalX X.prog X.w X.K X.mg X.base x k ps sp) (hr : Room k X.A) (tk : Takes X W)
    (ha : PA X (e :: es) t) (hg : Gl X x := by rfl) (hdb : (x == ("__debug__" : Str)) = false := by decide) (he : starEach (e :: es) X.env = (false, eval e X.env) :: starEach es X.env := by rfl) (hpl : (backTo pos (starEach es X.env)).any (·.1) = false := by rfl) :
    PE X (.Call (.Name x p) (e :: es) [] pos) (tCallS sp (WE W) t) := by
  obtain ⟨f, fd, G, g, kp, b⟩ := C.ex
  exact pe_callS G hr hg g kp b (fun σ => passAt tk σ) ha hdb he hpl
/-! ### own errors of one field -/
/-- what __init__ keeps -/
def spErr (C : Addr) (f : Str) : Sp := fun vs H Q _ => ∃ (a : Addr) (v : V), vs = [.ref a, v] ∧ H a = some (exo a C none) ∧ ∀ dx, H dx = none → dx ≠ a → Q .non (upd (upd H dx (exd dx [(f, v)])) a (exo a C (some dx)))
/-- the class of errors by the name x, its field f -/
structure ErrK (P : Program) (w : World) (K : PySem.W.Frag) (mg : Str → Option Value) (base : Heap) (x f : Str) : Prop where
  ex : ∃ (C fI : Addr) (fd : FuncData), PySem.W.nsIn K mainGlobals x = some (some (.ref C)) ∧ mg x = some (.ref C) ∧ OexC K C ∧ PySem.W.findIn K (.ref C) "__init__" = some (some (.ref fI)) ∧ PySem.W.typeIn K (.ref fI) = some (.type "function") ∧
    FnOk P w K mg base CX0 1 fI fd ["self", f] (spErr C f) ∧ Binds K fd ["self", f] []
/-- an error of the class by the name x may leave, its field f, all else as it was -/
def Lets (K : PySem.W.Frag) (x f : Str) (H : Hp) (E : XK) : Prop := ∀ (C d : Addr) (v : V) (H1 : Hp), PySem.W.nsIn K mainGlobals x = some (some (.ref C)) → Same H H1 → H1 d = none → E (.ref C) (some d) (upd H1 d (.xd [(f, v)]))
theorem Lets.same {K : PySem.W.Frag} {x f : Str} {H H2 : Hp} {E : XK} (l : Lets K x f H E) (s : Same H H2) : Lets K x f H2 E := fun C d v H1 h1 h2 h3 => l C d v H1 h1 (s.trans h2) h3
section
variable {X : Cx} {x f : Str} {e : Expr} {te : TE} {p pos : Pos}
theorem PE.more (he : PE X e te) : PE X e (fun σ H Q => ∃ Q1 : VK, te σ H Q1 ∧ ∀ v H1, Q1 v H1 → Q v H1) :=
  ⟨fun pins s σ H Q I ⟨Q1, h, k⟩ => wpAny_mono (he.run pins s σ H Q1 I h) (fun _ _ ⟨v, H', I', r, q⟩ => ⟨v, H', I', r, k _ _ q⟩) fun _ _ z => z⟩
theorem pmk_err (R : ErrK X.prog X.w X.K X.mg X.base x f) (hr : Room 2 X.A) (ha : PE X e te) (hg : Gl X x := by rfl) (hdb : (x == ("__debug__" : Str)) = false := by decide)
    (he : starEach (e :: []) X.env = (false, eval e X.env) :: starEach [] X.env := by rfl) (hpl : (backTo pos (starEach [] X.env)).any (·.1) = false := by rfl) :
    PMk X (.Call (.Name x p) [e] [] pos) (fun σ H Q => te σ H fun v H1 => ∀ C d, PySem.W.nsIn X.K mainGlobals x = some (some (.ref C)) → H1 d = none → Q (.ref C) (some d) (upd H1 d (.xd [(f, v)]))) := by
  obtain ⟨C, fI, fd, aC, gC, T, iC, tI, F, b⟩ := R.ex
  intro pins s σ H Q I h
  refine pmk_oex (dvs := []) (ds := []) T iC tI F hr b .nil pass0 hg gC (pa_cons (PE.more ha) pa_nil (hs := he)) hdb he hpl pins s σ H Q I ⟨_, h, fun v H1 q => ?_⟩
  refine ⟨(by show 1 ≤ 1000; decide), fun a na => ⟨a, v, rfl, upd_same, fun dx hd ne => ⟨rfl, dx, [(f, v)], upd_same, ?_, ?_, ?_⟩⟩⟩
  · rw [upd_ne ne, upd_same]
  · rw [upd_ne ne] at hd; exact hd
  · rw [upd_ne ne] at hd
    have z := q C dx aC hd
    have eq : upd (del (upd (upd (upd H1 a (exo a C none)) dx (exd dx [(f, v)])) a (exo a C (some dx))) a) dx (.xd [(f, v)]) = upd H1 dx (.xd [(f, v)]) := by
      funext c
      by_cases h1 : c = dx
      · rw [h1, upd_same, upd_same]
      · rw [upd_ne h1, upd_ne h1]
        by_cases h2 : c = a
        · rw [h2, del_same, na]
        · rw [del_ne h2, upd_ne h2, upd_ne h1, upd_ne h2]
    rw [eq]
    exact z
end
section
variable {X : Cx} {x : Str} {k : Nat} {ps : List Str} {sp : Sp} {e : Expr} {es : List Expr} {t : TA} {p pos : Pos}
/-- a def that may raise, called where it doesn't -/
theorem pe_calX0 (C : CalX X.prog X.w X.K X.mg X.base x k ps sp) (hr : Room k X.A)
    (ha : PA X (e :: es) t) (hg : Gl X x := by rfl) (hdb : (x == ("__debug__" : Str)) = false := by decide) (he : starEach (e :: es) X.env = (false, eval e X.env) :: starEach es X.env := by rfl) (hpl : (backTo pos (starEach es X.env)).any (·.1) = false := by rfl) :
    PE X (.Call (.Name x p) (e :: es) [] pos) (tCall sp [] E0 t) := by
  obtain ⟨f, fd, G, g, kp, b⟩ := C.ex
  exact pe_call G hr hg g kp b .nil passL ha hdb he hpl
end
theorem exm_own {K : PySem.W.Frag} {C : Addr} {cls : Value} {b : Bool} (h1 : PySem.W.subIn K (.ref C) (.type "BaseException") = some true) (hdct : PySem.W.hasDictIn K C = true) (ht : PySem.W.typeIn K (.ref C) = some (.type "type")) (h4 : PySem.W.subIn K cls (.ref C) = some b) : PySem.W.exmOne K cls (.ref C) = some b := by
  obtain ⟨cd, hc, _⟩ := PySem.W.any_some hdct
  have e1 : (PySem.W.subIn K (.ref C) (.type "BaseException") == some true) = true := by rw [h1] <;> rfl
  have e2 : ((PySem.W.clsIn K C).isSome && PySem.W.typeIn K (.ref C) == some (.type "type")) = true := by rw [hc, ht] <;> rfl
  show (if (PySem.W.subIn K (.ref C) (.type "BaseException") == some true) = true then (if ((PySem.W.clsIn K C).isSome && PySem.W.typeIn K (.ref C) == some (.type "type")) = true then PySem.W.subIn K cls (.ref C) else none) else none) = some b
  rw [if_pos e1, if_pos e2]
  exact h4
/-- one class stands by a name -/
theorem ns_one {K : PySem.W.Frag} {x : Str} {C D : Addr} (h : PySem.W.nsIn K mainGlobals x = some (some (.ref C))) (k : PySem.W.nsIn K mainGlobals x = some (some (.ref D))) : C = D := by
  rw [h] at k
  cases k
  rfl
/-! ### defs that raise, with keyword-only names; calls by names alone -/
structure CalXD (P : Program) (w : World) (K : PySem.W.Frag) (mg : Str → Option Value) (base : Heap) (x : Str) (k : Nat) (ps : List Str) (dvs : List V) (sp : Sp) : Prop where
  ex : ∃ (f : Addr) (fd : FuncData) (ds : List Value), FnOk P w K mg base (L2.CX P w) k f fd ps sp ∧ mg x = some (.ref f) ∧ PySem.W.keepIn K (.ref f) = true ∧ Vals dvs ds ∧ Binds K fd ps ds
structure CalXK (P : Program) (w : World) (K : PySem.W.Frag) (mg : Str → Option Value) (base : Heap) (x : Str) (k : Nat) (ps : List Str) (n : Nat) (ks : List Str) (sp : Sp) : Prop where
  ex : ∃ (f : Addr) (fd : FuncData) (g : List Value → List Value → List Value), FnOk P w K mg base (L2.CX P w) k f fd ps sp ∧ mg x = some (.ref f) ∧ PySem.W.keepIn K (.ref f) = true ∧ KBn K fd ps n ks g (fun vs zs => vs ++ zs)
/-- two handed in the other way about -/
def swap2 {α : Type} : List α → List α
  | [a, b] => [b, a]
  | l => l
theorem swap2_rel : ∀ {zs : List V} {ws : List Value}, Vals zs ws → Vals (swap2 zs) (swap2 ws)
  | _, _, .nil => .nil
  | _, _, .cons a .nil => .cons a .nil
  | _, _, .cons a (.cons b .nil) => .cons b (.cons a .nil)
  | _, _, .cons a (.cons b (.cons c r)) => .cons a (.cons b (.cons c r))
structure CalN (CX : CXT) (P : Program) (w : World) (K : PySem.W.Frag) (mg : Str → Option Value) (base : Heap) (x : Str) (k : Nat) (ps : List Str) (ks : List Str) (c : List V → List V) (sp : Sp) : Prop where
  ex : ∃ (f : Addr) (fd : FuncData) (g : List Value → List Value → List Value), FnOk P w K mg base CX k f fd ps sp ∧ mg x = some (.ref f) ∧ PySem.W.keepIn K (.ref f) = true ∧ KBn K fd ps 0 ks g (fun _ zs => c zs)
section
variable {X : Cx} {x : Str} {k n : Nat} {ps ks : List Str} {dvs : List V} {sp : Sp} {e : Expr} {es : List Expr} {kws : List Keyword} {t tk : TA} {p pos : Pos}
theorem pe_calXD0 (C : CalXD X.prog X.w X.K X.mg X.base x k ps dvs sp) (hr : Room k X.A)
    (ha : PA X (e :: es) t) (hg : Gl X x := by rfl) (hdb : (x == ("__debug__" : Str)) = false := by decide) (he : starEach (e :: es) X.env = (false, eval e X.env) :: starEach es X.env := by rfl) (hpl : (backTo pos (starEach es X.env)).any (·.1) = false := by rfl) :
    PE X (.Call (.Name x p) (e :: es) [] pos) (tCall sp dvs E0 t) := by
  obtain ⟨f, fd, ds, G, g, kp, hd, b⟩ := C.ex
  exact pe_call G hr hg g kp b hd passL ha hdb he hpl
theorem pe_calXK0 (C : CalXK X.prog X.w X.K X.mg X.base x k ps n ks sp) (hr : Room k X.A)
    (ha : PA X (e :: es) t) (hkw : PK X kws tk) (hg : Gl X x := by rfl) (hall : (backToKw pos (keywordEach kws X.env)).all (·.1.isSome) = true := by rfl) (hks : (backToKw pos (keywordEach kws X.env)).filterMap (·.1) = ks := by rfl)
    (hdb : (x == ("__debug__" : Str)) = false := by decide) (he : starEach (e :: es) X.env = (false, eval e X.env) :: starEach es X.env := by rfl)
    (hpl : ((backTo pos (starEach (e :: es) X.env)).any (·.1) || (backToKw pos (keywordEach kws X.env)).any (·.1.isNone)) = false := by rfl) :
    PE X (.Call (.Name x p) (e :: es) kws pos) (tCallN n ks.length sp (fun vs zs => vs ++ zs) E0 t tk) := by
  obtain ⟨f, fd, g, G, gm, kp, b⟩ := C.ex
  exact pe_callN G hr hg gm kp b passL ha hkw hall hks hdb he hpl
/-- f(e, .., k = v, ..) that may raise -/
def tCallNS (n m : Nat) (sp : Sp) (gV : List V → List V → List V) (E : L2.St → XK) (t tk : TA) : TE := fun σ H Q => t σ H fun vs H1 => tk σ H1 fun zs H2 => vs.length = n ∧ zs.length = m ∧ sp (gV vs zs) H2 Q (E σ)
theorem run_fnNS {CX : CXT} {pins : List (Addr × Obj)} {σ : L2.St} {H : Hp} {s : Shared} {Q : VK} {us ws : List Value} {vs zs : List V} {f : Addr} {fd : FuncData} {g : List Value → List Value → List Value} {gV : List V → List V → List V} {E : L2.St → XK} (F : FnOk X.prog X.w X.K X.mg X.base CX k f fd ps sp) (hr : Room k X.A) (hb : KBn X.K fd ps n ks g gV) (hx : PassesAt CX X σ (E σ))
    (I : Inv X pins σ H s) (r : Vals vs us) (rz : Vals zs ws) (l1 : vs.length = n) (l2 : zs.length = ks.length) (h : sp (gV vs zs) H Q (E σ)) : wpAny (model X.prog X.w) X.A (call (.ref f) us (ks.zip ws)) (EP X pins σ Q) X.xe s := by
  have r2 := hb.rel r rz
  refine wpAny_call (codeAny_mono (F.run X.A X.stack s H ⟨us, ks.zip ws⟩ (g us ws) (gV vs zs) Q (E σ) hr I.env0 (hb.to s us ws I.kIn (r.length.symm.trans l1) (rz.length.symm.trans l2)) r2 h) fun r s' hq => ?_)
  cases r with
  | error e => exact hx pins H s e s' I hq
  | ok fl =>
    cases fl with
    | ret u => exact I.after hq
    | next => exact False.elim hq
    | brk => exact False.elim hq
    | cont => exact False.elim hq
theorem pe_calXK {W : WX} (C : CalXK X.prog X.w X.K X.mg X.base x k ps n ks sp) (hr : Room k X.A) (tw : Takes X W)
    (ha : PA X (e :: es) t) (hkw : PK X kws tk) (hg : Gl X x := by rfl) (hall : (backToKw pos (keywordEach kws X.env)).all (·.1.isSome) = true := by rfl) (hks : (backToKw pos (keywordEach kws X.env)).filterMap (·.1) = ks := by rfl)
    (hdb : (x == ("__debug__" : Str)) = false := by decide) (he : starEach (e :: es) X.env = (false, eval e X.env) :: starEach es X.env := by rfl)
    (hpl : ((backTo pos (starEach (e :: es) X.env)).any (·.1) || (backToKw pos (keywordEach kws X.env)).any (·.1.isNone)) = false := by rfl) :
    PE X (.Call (.Name x p) (e :: es) kws pos) (tCallNS n ks.length sp (fun vs zs => vs ++ zs) (WE W) t tk) := by
  obtain ⟨f, fd, g, G, gm, kp, b⟩ := C.ex
  refine ⟨fun pins s σ H Q I h => ?_⟩
  refine wpAny_Call_Name_kw (ld_glob I hg gm ?_ hdb)
  refine PySem.W.callWith_KW (h₀ := X.base) I.ok.mod.kin kp hall (thn (ha.run pos pins s σ H _ I h) fun us s1 ⟨vs, H1, I1, r, q⟩ => ?_) hpl he
  refine thn (hkw.run pos pins s1 σ H1 _ I1 q) fun ws s2 ⟨zs, H2, I2, rz, l1, l2, q2⟩ => ⟨I2.kIn, ?_⟩
  rw [hks]
  exact run_fnNS G hr b (passAt tw σ) I2 r rz l1 l2 q2
/-- f(k = v, ..), by names alone -/
theorem pe_calN {CX : CXT} {c : List V → List V} (C : CalN CX X.prog X.w X.K X.mg X.base x k ps ks c sp) (hr : Room k X.A) (hx : Passes CX X E0) (hkw : PK X kws tk) (hg : Gl X x := by rfl)
    (hall : (backToKw pos (keywordEach kws X.env)).all (·.1.isSome) = true := by rfl) (hks : (backToKw pos (keywordEach kws X.env)).filterMap (·.1) = ks := by rfl) (hdb : (x == ("__debug__" : Str)) = false := by decide)
    (hpl : ((backTo pos (starEach [] X.env)).any (·.1) || (backToKw pos (keywordEach kws X.env)).any (·.1.isNone)) = false := by rfl) :
    PE X (.Call (.Name x p) [] kws pos) (fun σ H Q => tk σ H fun zs H2 => zs.length = ks.length ∧ sp (c zs) H2 Q E0) := by
  obtain ⟨f, fd, g, G, gm, kp, b⟩ := C.ex
  refine ⟨fun pins s σ H Q I h => ?_⟩
  refine wpAny_Call_Name_kw (ld_glob I hg gm ?_ hdb)
  refine PySem.W.callWith_KW0 (h₀ := X.base) I.ok.mod.kin kp hall ?_ hpl
  refine thn (hkw.run pos pins s σ H _ I h) fun ws s2 ⟨zs, H2, I2, rz, l2, q2⟩ => ⟨I2.kIn, ?_⟩
  rw [hks]
  exact run_fnN (us := []) (vs := []) G hr b hx I2 .nil rz rfl l2 q2
end
/-! ### the law's own call, where nothing guards: repr of data -/
/-- a def's body, walked for one caller's state A alone -/
theorem body_at {P : Program} {w : World} {K : PySem.W.Frag} {mg : Str → Option Value} {base : Heap} {k : Nat} {f : Addr} {name qual : Str} {params : Arguments} {body : List Stmt} {scope : Scope}
    {dV kV doc pm cdv ct oc : Value} {an od : Option Addr} {osl : Array (Option Value)} {N ps : List Str} {A : Around} {outer : List Env} {s : Shared} {H : Hp} {args : Args} {us : List Value} {vs : List V} {Q : VK}
    (lk : K.lookup f = some ⟨oc, od, .func (PySem.W.fnOf name qual params body scope dV kV doc pm an cdv ct), osl⟩) (hcd : PySem.W.codeIn K cdv qual = true) (S : FnScope N ps scope) (hl : vs.length = ps.length)
    (hr : Room (k + 1) A) (e0 : Env0 P w K mg base A outer s H) (hb : BindsTo s (PySem.W.fnOf name qual params body scope dV kV doc pm an cdv ct) args (ps.zip us)) (rv : Vals vs us)
    (walk : ∃ t, PSs (cxOf CX0 P w K mg base N qual scope f cdv A outer s H (fun _ _ _ => False)) body t ∧ t { nx := fun _ H' => Q .non H', rt := Q } (start N vs) H) :
    codeAny (model P w) A (.call (.ref f) args) (CR CX0 outer P w H s Q fun _ _ _ => False) s := by
  have old : ∀ b o, base.get? b = some o → s.heap.get? b = some o := fun b o z => (e0.bs b o z).1
  have inK : K.In s.heap := e0.mod.kin.keeps old
  have slots : ∀ y ∈ ps.zip us, scope.names.lookup y.1 = some .local ∨ (scope.names.lookup y.1 = some .cell ∧ ((cellsFrom (s.heap.objs.size + 1) scope.names []).lookup y.1).isSome = true) := by
    rintro ⟨n, v⟩ hy
    cases S.par n (List.of_mem_zip hy).1 with
    | inl z => exact Or.inl z
    | inr z => exact Or.inr ⟨z, PySem.W.cellsFrom_some _ _ _ (Or.inl z)⟩
  obtain ⟨t, ht, hq⟩ := walk
  refine codeAny_call_function hr.depth (inK _ _ lk) rfl S.co S.gen rfl (PySem.W.codeRec_of inK hcd) (hb _ _ _ _ ?_)
  refine wpAny_newFunctionEnv_cells S.kind slots fun env eenv s1 ic => ?_
  subst eenv
  refine ⟨(e0.mod.nolimit.keeps old).keeps ic.toInCall.keep, codeAny_func ?_⟩
  have J := inv_start (CX := CX0) (E := fun _ _ _ => False) S hr.hd e0 hl rv ic
  refine wpAny_mono (ht.run [] s1 _ H _ J hq) (fun fl s' got => ?_) fun _ _ z => z
  match fl, got with
  | .ret u, ⟨v, σ', H', J', r', q'⟩ => exact ⟨v, H', J'.os, J'.bare, J'.base, J'.hok, r', q'⟩
  | .next, ⟨σ', H', J', q'⟩ => exact ⟨.non, H', J'.os, J'.bare, J'.base, J'.hok, rfl, q'⟩
  | .brk, ⟨_, _, _, q'⟩ => exact q'.elim
  | .cont, ⟨_, _, _, q'⟩ => exact q'.elim
/-- the script as the only thing that may be tracked -/
structure Scr (P : Program) (w : World) (K : PySem.W.Frag) (h : Heap) (a : Addr) (ns : List Int) (H : Hp) : Prop where
  only : Only H
  seq : SqL K H a (ns.map V.int)
  ok : HOk P w H h
  at' : ∀ b, H b ≠ none → b = a ∧ K.lookup a = none
theorem scr {P : Program} {w : World} {K : PySem.W.Frag} {h : Heap} {a : Addr} {vs : List Value} {ns : List Int} (KX : K.In h)
    (ha : h.get? a = some { cls := .type "list", data := .seq vs.toArray }) (hi : IntsAre vs ns) (hl : ns.length ≤ sizeLine) : ∃ H, Scr P w K h a ns H := by
  have rel := vals_ints hi
  have len : (ns.map V.int).length ≤ sizeLine := by rw [List.length_map]; exact hl
  by_cases inK : K.lookup a = none
  · refine ⟨upd (fun _ => none) a (.frz { cls := .type "list", data := .seq vs.toArray } (.lst (ns.map V.int))), fun b => ?_, .inl (.inr ⟨_, upd_same⟩), fun b o e => ?_, fun b e => ?_⟩
    · rcases Decidable.em (b = a) with z | z
      · subst z; exact .inr ⟨_, _, upd_same⟩
      · exact .inl (upd_ne z)
    · rcases Decidable.em (b = a) with z | z
      · subst z
        rw [upd_same] at e
        cases e
        exact ⟨ha, len, vs, _, rel, ha⟩
      · rw [upd_ne z] at e; cases e
    · rcases Decidable.em (b = a) with z | z
      · exact ⟨z, inK⟩
      · exact absurd (upd_ne z) e
  · obtain ⟨o, ho⟩ : ∃ o, K.lookup a = some o := by
      cases e : K.lookup a with
      | none => exact absurd e inK
      | some o => exact ⟨o, rfl⟩
    have same : o = { cls := .type "list", data := .seq vs.toArray } := Option.some.inj ((KX a o ho).symm.trans ha)
    subst same
    refine ⟨fun _ => none, fun _ => .inl rfl, .inr ⟨_, vs.toArray, 0, ho, rfl, rfl, rfl, ?_, ?_⟩, fun _ _ e => ?_, fun _ e => absurd rfl e⟩
    · have := hi.length
      show vs.toArray.size ≤ sizeLine
      rw [List.size_toArray]; omega
    · show Vals _ vs.toArray.toList
      exact rel
    · exact nomatch e
/-- the law's call from its promise, walked where nothing guards -/
theorem call_scr {P : Program} {w : World} {K : PySem.W.Frag} {mg mb : Str → Option Value} {fa a : Addr} {s₁ : Shared} {vs : List Value} {ns : List Int}
    (KX : K.In s₁.heap) (hns : s₁.heap.Ns mainGlobals mg) (hb : s₁.heap.Ns builtinsNs mb) (hbb : ∀ x : Str, x ≠ "__name__" → mb x = bootBuiltins x) (hlim : s₁.heap.NoLimit) (hg : s₁.gens = #[])
    (ha : s₁.heap.get? a = some { cls := .type "list", data := .seq vs.toArray }) (hi : IntsAre vs ns) (hl : ns.length ≤ sizeLine)
    (B : ∀ base H, K.In base → base.Ns mainGlobals mg → Env0 P w K mg base callerA [] s₁ H → SqL K H a (ns.map V.int) →
      codeAny (model P w) callerA (.call (.ref fa) ⟨[.ref a], []⟩) (CR CX0 [] P w H s₁ (fun v _ => v = .bl true) fun _ _ _ => False) s₁) :
    codeAny (model P w) callerA (.call (.ref fa) ⟨[.ref a], []⟩) (fun r s' => r = .ok (.ret (.bool true)) ∧ OldK s₁.heap s'.heap ∧ s'.os = s₁.os ∧ AllBare s'.gens) s₁ := by
  obtain ⟨H, C⟩ := scr (P := P) (w := w) KX ha hi hl
  -- what holds no list stands in the part that is not tracked
  have free : ∀ b o, s₁.heap.get? b = some o → (∀ n, o.data ≠ .seq vs.toArray n) → H b = none := fun b o e nd => by
    rcases Decidable.em (H b = none) with z | z
    · exact z
    · have q := (C.at' b z).1
      subst q
      rw [ha] at e
      cases e
      exact absurd rfl (nd _)
  have ns_of : ∀ L m, s₁.heap.Ns L m → (hidT s₁.heap H).Ns L m := fun L m n => by
    obtain ⟨o, es, ep, e, d, r⟩ := n
    exact ⟨o, es, ep, hidT_get e (free _ _ e fun k z => by rw [d] at z; cases z), d, r⟩
  have kin : K.In (hidT s₁.heap H) := fun b o e => by
    refine hidT_get (KX b o e) ?_
    rcases Decidable.em (H b = none) with z | z
    · exact z
    · obtain ⟨q, u⟩ := C.at' b z
      subst q
      rw [u] at e; cases e
  obtain ⟨mc, l1, l2⟩ := hlim
  have e0 : Env0 P w K mg (hidT s₁.heap H) callerA [] s₁ H :=
    ⟨rfl, ⟨kin, ns_of _ _ hns, ⟨mb, ns_of _ _ hb, hbb⟩, mc, ns_of _ _ l1, l2⟩, fun b o e => of_hidT e, Nat.le_of_eq (hidT_size _ _), trivial, fun b z => absurd (show b ∈ ([] : List Addr) from z) (by simp), C.ok, AllBare.of_eq hg⟩
  refine codeAny_mono (B _ H kin (ns_of _ _ hns) e0 C.seq) fun r s' got => ?_
  match r, got with
  | .ok (.ret u), ⟨v, H', os, bare, un, hok', rv, q⟩ =>
    cases q
    cases rv
    refine ⟨rfl, OldK.of_keep fun b o e => ?_, os, bare⟩
    rcases C.only b with z | ⟨ob, xs, z⟩
    · exact un.keep b o e z (fun y => nomatch y) (fun y => nomatch y)
    · have o1 := (C.ok b _ z).1
      have o2 := (hok' b _ (un.frzs b ob _ z)).1
      have := Option.some.inj (o1.symm.trans e)
      subst this
      exact o2
  | .ok .next, z => exact False.elim z
  | .ok .brk, z => exact False.elim z
  | .ok .cont, z => exact False.elim z
  | .error e, z => exact False.elim z
/-- the goal that the head leaves: the law's def walked for its caller's own state, in which nothing guards -/
theorem walk_scr {l : PySem.W.OpenLaw} {n : Nat} {q : Program} {loose : List Str} {XP : (Str → Option Value) → Heap → Prop} {YP : World → Heap → Prop} {d : DefRec} {K : Params → PySem.W.Frag}
    (hn : l.most = some n) (hn2 : n ≤ sizeLine) (hdf : d.params.defaults = []) (hY : ∀ (w : World) (h : Heap), YP w h → (K w.params).In h)
    (F : ∀ (w : World) (mg : Str → Option Value) (fa : Addr) (h : Heap), (K w.params).In h → h.Ns mainGlobals mg → mg d.name = some (.ref fa) →
      ∀ (base : Heap) (H : Hp) (s : Shared) (a : Addr) (ns : List Int), (K w.params).In base → base.Ns mainGlobals mg → Env0 l.prog w (K w.params) mg base callerA [] s H → SqL (K w.params) H a (ns.map V.int) → ns.length ≤ n →
        codeAny (model l.prog w) callerA (.call (.ref fa) ⟨[.ref a], []⟩) (CR CX0 [] l.prog w H s (fun v _ => v = .bl true) fun _ _ _ => False) s) :
    PySem.W.WalkO q loose XP YP l.row.toRowW d [] (fun f vs => PySem.call f vs) := by
  refine Att.attach_call hn hdf fun w s₀ s₁ mg mb fa o pm cd doc a vs ns G Y _ _ _ hmg hobj hints hlen hg => ?_
  have KX := hY w _ Y
  exact call_scr KX G.T.g G.T.b G.T.builtins G.T.nolimit hg hobj hints (Nat.le_trans hlen hn2) fun base H kb nb e0 hS => F w mg fa _ KX G.T.g hmg base H s₁ a ns kb nb e0 hS hlen
theorem caller_guards : callerA.guards = some [] := by first | rfl | decide
/-- repr of data, where nothing guards -/
def rRepr (K : PySem.W.Frag) : List V → Hp → VK → Prop := fun xs H Q => ∃ (x : V) (d : PyData), xs = [x] ∧ Dp K H x d ∧ d.showable = true ∧ d.hasDict = false ∧ d.depth ≤ 50 ∧ d.shown.length ≤ sizeLine ∧ Q (.str d.shown) H
theorem call_reprD {X : Cx} (gd : X.A.guards = some []) (hu : X.A.units + 64 < cLine) : CallR X (.builtin "repr") (rRepr X.K) := by
  intro pins s σ H xs us Q I r h
  obtain ⟨x, d, rfl, hd, hs, hnd, hdp, hz, hq⟩ := h
  obtain ⟨u, rfl, ru⟩ := r.one
  obtain ⟨as, rd⟩ := Dp.reads I d x u hd ru
  have byRef : ∀ a, u = .ref a → wpAny (model X.prog X.w) X.A (call (.builtin "repr") [u]) (EP X pins σ Q) X.xe s := fun a e => by
    subst e
    exact repr_of_reads' rd hs (fun z => by rw [hnd] at z; cases z) gd (by omega) (fun _ _ z => z) (fun h' v tk k => ⟨.str d.shown, H, I.kept (t' := tk) k, ⟨_, rfl⟩, hq⟩) hz
  cases hd with
  | non =>
    cases ru
    exact PySem.P.repr_of_none ⟨.str "None", H, I.tok _, ⟨_, rfl⟩, hq⟩
  | bl b =>
    cases ru
    exact PySem.P.repr_of_bool ⟨.str (if b then "True" else "False"), H, I.tok _, ⟨_, rfl⟩, hq⟩
  | int i =>
    obtain ⟨t, rfl⟩ := ru
    exact PySem.P.repr_of_int (of_decide_eq_true hs) ⟨.str (toString i), H, I.tok _, ⟨_, rfl⟩, hq⟩
  | str z =>
    obtain ⟨t, rfl⟩ := ru
    exact PySem.P.repr_of_str ⟨.str (reprText z), H, I.tok _, ⟨_, rfl⟩, hq⟩ hz
  | lst _ _ => exact byRef _ ru
  | tup _ _ => exact byRef _ ru
/-! ### isinstance of the error that the suite holds -/
def rIsS (K : PySem.W.Frag) (a : Addr) (cls : Value) (d : Option Addr) : List V → Hp → VK → Prop := fun xs H Q => ∃ (C dd : Addr) (fs : List (Str × V)) (c : V) (u : Value) (b : Bool), xs = [.ref a, c] ∧ cls = .ref C ∧ d = some dd ∧ H dd = some (.xd fs) ∧ ErrC K C ∧ ClsV c u ∧ PySem.W.kitOne K (.ref C) u = some b ∧ Q (.bl b) H
theorem call_isS {X : Cx} {a : Addr} {oe : Obj} {cls : Value} {d : Option Addr} {pn : List (Addr × Obj)} (hz : Zc cls d oe) (hf : ∃ vs, oe.data = .fields vs) : CallR (X.suite a ((a, oe) :: pn)) (.builtin "isinstance") (rIsS X.K a cls d) := by
  intro pins s σ H xs us Q I r h
  obtain ⟨C, dd, fs, c, u, b, rfl, rfl, rfl, ed, E, k, e, q⟩ := h
  obtain ⟨u1, u2, rfl, r1, r2⟩ := vals2 r
  have e2 := k.eq r2
  subst e2
  cases (show u1 = Value.ref a from r1)
  obtain ⟨hget, _⟩ := I.pin (a, oe) (List.mem_append.mpr (.inl List.mem_cons_self))
  obtain ⟨vs, hv⟩ := hf
  obtain ⟨mA, hns, _⟩ := (show ObjOk X.prog X.w H s.heap dd (.xd fs) from I.hok dd _ ed)
  obtain ⟨od, _, _, ho, _⟩ := hns
  have J : PySem.W.InstAt s.heap a oe C (some od) := ⟨hget, hz.1, by unfold PySem.W.notCls; rw [hv] <;> rfl, by rw [hz.2]; exact ho⟩
  exact PySem.W.kia_one E.kit I.kIn J e (fun z => nomatch z) fun tk => ⟨.bl b, H, I.tok tk, rfl, q⟩
/-! ### list(text), tuple(text): its signs -/
theorem vals_idx : ∀ (xs : List V) (us : List Value), us.length = xs.length → (∀ (j : Nat) (u : Value), us[j]? = some u → ∃ x, xs[j]? = some x ∧ RelV x u) → Vals xs us := by
  intro xs
  induction xs with
  | nil =>
    intro us hl _
    cases us with
    | nil => exact .nil
    | cons _ _ => simp at hl
  | cons x xs ih =>
    intro us hl hk
    cases us with
    | nil => simp at hl
    | cons u us =>
      obtain ⟨y, e, r⟩ := hk 0 u rfl
      have ey : x = y := by simpa using e
      subst ey
      refine .cons r (ih us (by simpa using hl) fun j v hj => ?_)
      simpa using hk (j + 1) v (by simpa using hj)
def signs (z : Str) : List V := z.cps.toList.map fun c => V.str ⟨#[c]⟩
theorem signs_vals {z : Str} {acc : Array Value} (it : ItemsOf (SignAt z) acc z.cps.size) : Vals (signs z) acc.toList := by
  refine vals_idx _ _ (by unfold signs; rw [Array.length_toList, List.length_map, Array.length_toList]; exact it.1) fun j u hj => ?_
  obtain ⟨c, t, hc, rfl⟩ := it.2 j u (by rw [← Array.getElem?_toList]; exact hj)
  refine ⟨V.str ⟨#[c]⟩, ?_, ⟨t, rfl⟩⟩
  unfold signs
  rw [List.getElem?_map, Array.getElem?_toList, hc]; rfl
theorem call_listStr {X : Cx} (hc : X.calm = true) : CallR X (.type "list") (fun xs H Q => ∃ z, xs = [.str z] ∧ z.cps.size ≤ sizeLine ∧ ∀ l, H l = none → Q (.ref l) (upd H l (.lst (signs z)))) := by
  intro pins s σ H xs us Q I r h
  obtain ⟨z, rfl, hz, q⟩ := h
  obtain ⟨u, rfl, rx⟩ := vals1 r
  obtain ⟨t, rfl⟩ := rx
  refine call_list_str (I.ok.hd hc) z t (fun h' tk acc c' kp e it => ?_) hz
  refine ⟨.ref s.heap.objs.size, _, I.laid (t' := tk) kp (Nat.le_refl _) (show ObjOk X.prog X.w _ h' _ (.lst (signs z)) from ⟨?_, acc.toList, c', signs_vals it, by rw [Array.toArray_toList]; exact e⟩), rfl, q _ (I.hok.fresh (Nat.le_refl _))⟩
  unfold signs
  rw [List.length_map, Array.length_toList]; exact hz
theorem call_tupleStr {X : Cx} (hc : X.calm = true) : CallR X (.type "tuple") (fun xs H Q => ∃ z, xs = [.str z] ∧ z.cps.size ≤ sizeLine ∧ ∀ l, H l = none → Q (.ref l) (upd H l (.tup (signs z)))) := by
  intro pins s σ H xs us Q I r h
  obtain ⟨z, rfl, hz, q⟩ := h
  obtain ⟨u, rfl, rx⟩ := vals1 r
  obtain ⟨t, rfl⟩ := rx
  refine call_tuple_str (I.ok.hd hc) z t (fun h' tk acc kp it => ?_) hz
  have I1 : Inv X pins σ H { s with heap := h', toks := tk } := I.kept (t' := tk) kp
  have I2 : Inv X pins σ (upd H h'.objs.size (.tup (signs z))) { s with heap := h'.push { cls := .type "tuple", data := .seq acc }, toks := tk } :=
    I1.laid (t' := tk) (fun b o e => Heap.get?_push_of_some _ e) (Nat.le_refl _) (show ObjOk X.prog X.w _ _ _ (.tup (signs z)) from ⟨?_, acc.toList, signs_vals it, by rw [Array.toArray_toList]; exact IsTup.new _ _⟩)
  · exact ⟨.ref h'.objs.size, _, I2, rfl, q _ (I1.hok.fresh (Nat.le_refl _))⟩
  · unfold signs
    rw [List.length_map, Array.length_toList]; exact hz
/-! ### things of many kinds, as data -/
theorem seqL_same {K : PySem.W.Frag} {H H' : Hp} {a : Addr} {xs : List V} (s : Same H H') (h : SqL K H a xs) : SqL K H' a xs := s.seq h
theorem seqT_same {K : PySem.W.Frag} {H H' : Hp} {a : Addr} {xs : List V} (e : Same H H') (h : SqT K H a xs) : SqT K H' a xs := by
  rcases h with (h | ⟨o, h⟩) | h
  · exact .inl (.inl (e _ _ h))
  · exact .inl (.inr ⟨o, e _ _ h⟩)
  · exact .inr h
mutual
theorem Dp.same {K : PySem.W.Frag} {H H' : Hp} (s : Same H H') : ∀ {v : V} {d : PyData}, Dp K H v d → Dp K H' v d
  | _, _, .non => .non
  | _, _, .bl b => .bl b
  | _, _, .int i => .int i
  | _, _, .str x => .str x
  | _, _, .lst h k => .lst (seqL_same s h) (DpAll.same s k)
  | _, _, .tup h k => .tup (seqT_same s h) (DpAll.same s k)
theorem DpAll.same {K : PySem.W.Frag} {H H' : Hp} (s : Same H H') : ∀ {vs : List V} {ds : List PyData}, DpAll K H vs ds → DpAll K H' vs ds
  | _, _, .nil => .nil
  | _, _, .cons h k => .cons (Dp.same s h) (DpAll.same s k)
end
theorem NoT.same {H H' : Hp} {v : V} (k : NoT H v) (s : Same H H') : NoT H' v := by
  cases k with
  | non => exact .non
  | bl b => exact .bl b
  | int i => exact .int i
  | str x => exact .str x
  | lst e => exact .lst (s _ _ e)
  | dk e => exact .dk (s _ _ e)
/-- the heap but for what stands at a -/
def hide (a : Addr) (H : Hp) : Hp := fun b => if b = a then none else H b
theorem hide_same (a : Addr) (H : Hp) : Same (hide a H) H := fun b o h => by
  unfold hide at h
  by_cases c : b = a
  · rw [if_pos c] at h; cases h
  · rw [if_neg c] at h; exact h
theorem hide_but {a : Addr} {H H' : Hp} (b : But a H H') : Same (hide a H) (hide a H') := fun c o h => by
  unfold hide at h ⊢
  by_cases e : c = a
  · rw [if_pos e] at h; cases h
  · rw [if_neg e] at h ⊢; exact b c o e h
theorem hide_at {a p : Addr} {H : Hp} {o : HO} (h : H p = some o) (n : p ≠ a) : hide a H p = some o := by
  unfold hide; rw [if_neg n]; exact h
def Sok (s : Str) : Prop := PyData.strOk s = true ∧ s.cps.size ≤ 100
def LeafD (d : PyData) : Prop := d.showable = true ∧ d.hasDict = false ∧ d.leavesShort 600 = true ∧ d.weight ≤ 200 ∧ d.depth ≤ 1
def FitD (d : PyData) : Prop := d.showable = true ∧ d.hasDict = false ∧ d.depth ≤ 50 ∧ d.shown.length ≤ sizeLine
/-- a leaf, or little more -/
def Leafy (K : PySem.W.Frag) (H : Hp) (v : V) : Prop := (∃ d, Dp K H v d ∧ LeafD d) ∧ Kd H v ∧ ∀ s, v = .str s → Sok s
theorem Leafy.same {K : PySem.W.Frag} {H H' : Hp} {v : V} (l : Leafy K H v) (s : Same H H') : Leafy K H' v := by
  obtain ⟨⟨d, h, k⟩, kd, so⟩ := l
  exact ⟨⟨d, Dp.same s h, k⟩, kd.same s, so⟩
theorem leafs_all {K : PySem.W.Frag} {H : Hp} : ∀ {xs : List V}, (∀ x ∈ xs, Leafy K H x) → ∃ ds, DpAll K H xs ds ∧ ds.length = xs.length ∧ ∀ d ∈ ds, LeafD d := by
  intro xs
  induction xs with
  | nil => exact fun _ => ⟨[], .nil, rfl, fun d hd => nomatch hd⟩
  | cons x xs ih =>
    intro h
    obtain ⟨⟨d, h1, h2⟩, _⟩ := h x (by simp)
    obtain ⟨ds, k1, k2, k3⟩ := ih fun y hy => h y (by simp [hy])
    refine ⟨d :: ds, .cons h1 k1, by simp [k2], fun e he => ?_⟩
    rcases List.mem_cons.mp he with z | z
    · rw [z]; exact h2
    · exact k3 e z
theorem leafs_fit {ds : List PyData} (h : ∀ d ∈ ds, LeafD d) (n : ds.length ≤ 8) : PyData.showableAll ds = true ∧ PyData.hasDictAll ds = false ∧ PyData.leavesShortAll 600 ds = true ∧ PyData.weightAll ds ≤ 1608 ∧ PyData.depthAll ds ≤ 1 := by
  have key : ∀ ds : List PyData, (∀ d ∈ ds, LeafD d) → PyData.showableAll ds = true ∧ PyData.hasDictAll ds = false ∧ PyData.leavesShortAll 600 ds = true ∧ PyData.weightAll ds ≤ 201 * ds.length ∧ PyData.depthAll ds ≤ 1 := by
    intro ds
    induction ds with
    | nil => intro _; simp [PyData.showableAll, PyData.hasDictAll, PyData.leavesShortAll, PyData.weightAll, PyData.depthAll]
    | cons d ds ih =>
      intro h
      obtain ⟨a1, a2, a3, a4, a5⟩ := h d (by simp)
      obtain ⟨b1, b2, b3, b4, b5⟩ := ih fun e he => h e (by simp [he])
      simp only [PyData.showableAll, PyData.hasDictAll, PyData.leavesShortAll, PyData.weightAll, PyData.depthAll, a1, a2, a3, b1, b2, b3, List.length_cons]
      refine ⟨rfl, rfl, rfl, by omega, by omega⟩
  obtain ⟨a1, a2, a3, a4, a5⟩ := key ds h
  exact ⟨a1, a2, a3, by omega, a5⟩
theorem fit_shown {d : PyData} (h : d.leavesShort 600 = true) (w : d.weight ≤ 2000) : d.shown.length ≤ sizeLine := by
  have := PyData.shown_le 600 (by decide) d h
  rw [sizeLine_eq]; omega
theorem fit_tup {ds : List PyData} (h : ∀ d ∈ ds, LeafD d) (n : ds.length ≤ 8) : FitD (.tuple ds) := by
  obtain ⟨a1, a2, a3, a4, a5⟩ := leafs_fit h n
  refine ⟨by simp only [PyData.showable, a1], by simp only [PyData.hasDict, a2], by simp only [PyData.depth]; omega, fit_shown (by simp only [PyData.leavesShort, a3]) (by simp only [PyData.weight]; omega)⟩
theorem fit_lst {ds : List PyData} (h : ∀ d ∈ ds, LeafD d) (n : ds.length ≤ 8) : FitD (.list ds) := by
  obtain ⟨a1, a2, a3, a4, a5⟩ := leafs_fit h n
  refine ⟨by simp only [PyData.showable, a1], by simp only [PyData.hasDict, a2], by simp only [PyData.depth]; omega, fit_shown (by simp only [PyData.leavesShort, a3]) (by simp only [PyData.weight]; omega)⟩
theorem leaf_str {s : Str} (h : Sok s) : LeafD (.str s) := by
  obtain ⟨h1, h2⟩ := h
  refine ⟨by simp [PyData.showable], by simp [PyData.hasDict], ?_, by simp only [PyData.weight]; omega, by simp [PyData.depth]⟩
  simp only [PyData.leavesShort]
  rw [List.all_eq_true]
  intro c hc
  unfold PyData.strOk at h1
  rw [Array.all_eq_true_iff_forall_mem] at h1
  have := of_decide_eq_true (h1 c (by simpa using hc))
  exact decide_eq_true (Nat.lt_trans this (by decide))
theorem leafy_str {K : PySem.W.Frag} {H : Hp} {s : Str} (h : Sok s) : Leafy K H (.str s) := ⟨⟨_, .str s, leaf_str h⟩, .str s, fun _ e => by cases e; exact h⟩
theorem leafy_none {K : PySem.W.Frag} {H : Hp} : Leafy K H .non := ⟨⟨_, .non, by unfold LeafD; decide⟩, .non, fun _ e => nomatch e⟩
theorem leafy_bl {K : PySem.W.Frag} {H : Hp} (b : Bool) : Leafy K H (.bl b) := ⟨⟨_, .bl b, by cases b <;> (unfold LeafD; decide)⟩, .bl b, fun _ e => nomatch e⟩
theorem leaf_int {i : Int} (h : i.natAbs < 10 ^ 40) : LeafD (.int i) := by
  have e := int_text_length_le10 (k := 40) (by decide) h
  have h2 : (10 : Nat) ^ 40 ≤ 16 ^ 40 := Nat.pow_le_pow_left (by decide) 40
  have h3 : (16 : Nat) ^ 40 = 2 ^ 160 := by rw [show (16 : Nat) = 2 ^ 4 by decide, ← Nat.pow_mul]
  have l : i.natAbs.log2 < 160 := PySem.Flt.log2_lt_of (by decide) (Nat.lt_of_lt_of_le h (h3 ▸ h2))
  clear h h2 h3
  refine ⟨?_, by simp [PyData.hasDict], ?_, ?_, by simp [PyData.depth]⟩
  · simp only [PyData.showable]; exact decide_eq_true (by omega)
  · simp only [PyData.leavesShort, PyData.shown]
    refine decide_eq_true ?_
    rw [PySem.ofString_length]; omega
  · simp only [PyData.weight]; split <;> omega
theorem leafy_int {K : PySem.W.Frag} {H : Hp} {i : Int} (h : i.natAbs < 10 ^ 40) : Leafy K H (.int i) := ⟨⟨_, .int i, leaf_int h⟩, .int i, fun _ e => nomatch e⟩
theorem small40 {i : Int} (h0 : -100000 ≤ i) (h1 : i ≤ 100000) : i.natAbs < 10 ^ 40 := by
  have : (100001 : Nat) ≤ 10 ^ 40 := by decide
  omega
theorem leafy_one {K : PySem.W.Frag} {H : Hp} {p : Addr} {i : Int} (h : H p = some (.tup [.int i])) (b : i.natAbs < 10 ^ 40) : Leafy K H (.ref p) := by
  refine ⟨⟨.tuple [.int i], .tup (.of h) (.cons (.int i) .nil), ?_⟩, .tup h, fun _ e => nomatch e⟩
  obtain ⟨a1, a2, a3, a4, a5⟩ := leaf_int b
  refine ⟨?_, ?_, ?_, ?_, ?_⟩
  · simp only [PyData.showable, PyData.showableAll, Bool.and_true] at *; exact a1
  · simp [PyData.hasDict, PyData.hasDictAll]
  · simp only [PyData.leavesShort, PyData.leavesShortAll, Bool.and_true] at *; exact a3
  · have l : i.natAbs.log2 < 160 := by
      have h2 : (10 : Nat) ^ 40 ≤ 16 ^ 40 := Nat.pow_le_pow_left (by decide) 40
      have h3 : (16 : Nat) ^ 40 = 2 ^ 160 := by rw [show (16 : Nat) = 2 ^ 4 by decide, ← Nat.pow_mul]
      exact PySem.Flt.log2_lt_of (by decide) (Nat.lt_of_lt_of_le b (h3 ▸ h2))
    simp only [PyData.weight, PyData.weightAll]; split <;> omega
  · simp [PyData.depth, PyData.depthAll]
/-- a thing: a tuple of leaves, a list of such, or a leaf that is no tuple -/
def Thing (K : PySem.W.Frag) (H : Hp) (v : V) : Prop := (∃ d, Dp K H v d ∧ FitD d) ∧ ((∃ (p : Addr) (xs : List V), v = .ref p ∧ H p = some (.tup xs) ∧ (∀ x ∈ xs, Kd H x) ∧ ∀ s, V.str s ∈ xs → Sok s) ∨ NoT H v)
theorem Thing.same {K : PySem.W.Frag} {H H' : Hp} {v : V} (t : Thing K H v) (s : Same H H') : Thing K H' v := by
  obtain ⟨⟨d, h, k⟩, t⟩ := t
  refine ⟨⟨d, Dp.same s h, k⟩, ?_⟩
  rcases t with ⟨p, xs, rfl, h1, h2, h3⟩ | t
  · exact .inl ⟨p, xs, rfl, s _ _ h1, fun x hx => (h2 x hx).same s, h3⟩
  · exact .inr (t.same s)
theorem Thing.tup {K : PySem.W.Frag} {H : Hp} {p : Addr} {xs : List V} (h : H p = some (.tup xs)) (l : ∀ x ∈ xs, Leafy K H x) (n : xs.length ≤ 8) : Thing K H (.ref p) := by
  obtain ⟨ds, k1, k2, k3⟩ := leafs_all l
  exact ⟨⟨.tuple ds, .tup (.of h) k1, fit_tup k3 (by omega)⟩, .inl ⟨p, xs, rfl, h, fun x hx => (l x hx).2.1, fun s hs => (l _ hs).2.2 s rfl⟩⟩
theorem Thing.lst {K : PySem.W.Frag} {H : Hp} {p : Addr} {xs : List V} (h : H p = some (.lst xs)) (l : ∀ x ∈ xs, Leafy K H x) (n : xs.length ≤ 8) : Thing K H (.ref p) := by
  obtain ⟨ds, k1, k2, k3⟩ := leafs_all l
  exact ⟨⟨.list ds, .lst (.of h) k1, fit_lst k3 (by omega)⟩, .inr (.lst h)⟩
theorem Thing.non {K : PySem.W.Frag} {H : Hp} : Thing K H .non := ⟨⟨_, .non, by unfold FitD; decide +kernel⟩, .inr .non⟩
theorem with_finVH {A P : Addr → Hp → Prop} {G : Prop} (h : ∀ p H, A p H → P p H) (k : (∀ p H, A p H → P p H) → G) : G := k h
/-! ### a field of a kept error -/
def tKf (K : PySem.W.Frag) (n : Str) (te : TE) : TE := fun σ H Q => te σ H fun x H1 => ∃ (a C d : Addr) (fs : List (Str × V)) (v : V), x = .ref a ∧ H1 a = some (kept a (.ref C) (some d)) ∧ H1 d = some (.xd fs) ∧ ErrC K C ∧ PySem.W.findIn K (.ref C) n = some none ∧ fs.lookup n = some v ∧ Q v H1
theorem pe_kf {X : Cx} {e : Expr} {te : TE} {pos : Pos} {n : Str} (he : PE X e te) (hb : attributeBase e n X.env (eval e X.env) = eval e X.env := by rfl) : PE X (.Attribute e n pos) (tKf X.K n te) := by
  refine ⟨fun pins s σ H Q I h => ?_⟩
  refine attr_of hb (thn (he.run pins s σ H _ I h) fun u s1 ⟨x, H1, I1, rx, q⟩ => ?_)
  obtain ⟨a, C, d, fs, v, rfl, ea, ed, E, hno, l, q⟩ := q
  obtain rfl : u = Value.ref a := rx
  obtain ⟨⟨oe, h1, hz, vs, hd⟩, _⟩ := (show ObjOk X.prog X.w H1 s1.heap a (kept a (.ref C) (some d)) from I1.hok a _ ea)
  obtain ⟨mA, hns, hr⟩ := (show ObjOk X.prog X.w H1 s1.heap d (.xd fs) from I1.hok d _ ed)
  obtain ⟨od, ho, hl⟩ := lookIn_ns hns
  obtain ⟨w, hu, ru⟩ := RelO.some_of (v := v) (o := mA n) (by rw [← l]; exact hr n)
  have J : PySem.W.InstAt s1.heap a oe C (some od) := ⟨h1, hz.1, by unfold PySem.W.notCls; rw [hd] <;> rfl, by rw [hz.2]; exact ho⟩
  exact HandSPX.exc_get I1.kIn J E.hg E.hk E.hs (PySem.W.findObj_own E.hd hno rfl (by rw [hl, hu])) (handed_of ru) ⟨v, H1, I1.tok _, ru, q⟩
/-! ### data in the heap: None, truths, ints, texts, lists, tuples, empty dicts -/
mutual
inductive Dx (H : Hp) : V → PyData → Prop where
  | non : Dx H .non .none
  | bl (b : Bool) : Dx H (.bl b) (.bool b)
  | int (i : Int) : Dx H (.int i) (.int i)
  | str (x : Str) : Dx H (.str x) (.str x)
  | lst {a : Addr} {xs : List V} {ds : List PyData} (e : H a = some (.lst xs)) (h : DxAll H xs ds) : Dx H (.ref a) (.list ds)
  | tup {a : Addr} {xs : List V} {ds : List PyData} (e : H a = some (.tup xs)) (h : DxAll H xs ds) : Dx H (.ref a) (.tuple ds)
  | dk {a : Addr} (e : H a = some (.dK [])) : Dx H (.ref a) (.dict [])
inductive DxAll (H : Hp) : List V → List PyData → Prop where
  | nil : DxAll H [] []
  | cons {v : V} {vs : List V} {d : PyData} {ds : List PyData} (h : Dx H v d) (k : DxAll H vs ds) : DxAll H (v :: vs) (d :: ds)
end
mutual
theorem Dx.same {H H' : Hp} (s : Same H H') : ∀ {v : V} {d : PyData}, Dx H v d → Dx H' v d
  | _, _, .non => .non
  | _, _, .bl b => .bl b
  | _, _, .int i => .int i
  | _, _, .str x => .str x
  | _, _, .lst e h => .lst (s _ _ e) (DxAll.same s h)
  | _, _, .tup e h => .tup (s _ _ e) (DxAll.same s h)
  | _, _, .dk e => .dk (s _ _ e)
theorem DxAll.same {H H' : Hp} (s : Same H H') : ∀ {vs : List V} {ds : List PyData}, DxAll H vs ds → DxAll H' vs ds
  | _, _, .nil => .nil
  | _, _, .cons h k => .cons (Dx.same s h) (DxAll.same s k)
end
theorem DxAll.length {H : Hp} : ∀ {vs : List V} {ds : List PyData}, DxAll H vs ds → vs.length = ds.length
  | _, _, .nil => rfl
  | _, _, .cons _ k => by rw [List.length_cons, List.length_cons, k.length]
theorem DxAll.at {H : Hp} : ∀ {vs : List V} {ds : List PyData}, DxAll H vs ds → ∀ {i : Nat} {v : V}, vs[i]? = some v → ∃ d, ds[i]? = some d ∧ Dx H v d
  | _, _, .nil, _, _, e => nomatch e
  | _, _, .cons h _, 0, _, e => ⟨_, rfl, Option.some.inj e ▸ h⟩
  | _, _, .cons _ k, i + 1, _, e => k.at (i := i) e
theorem DxAll.at' {H : Hp} : ∀ {vs : List V} {ds : List PyData}, DxAll H vs ds → ∀ {i : Nat} {d : PyData}, ds[i]? = some d → ∃ v, vs[i]? = some v ∧ Dx H v d
  | _, _, .nil, _, _, e => nomatch e
  | _, _, .cons h _, 0, _, e => ⟨_, rfl, Option.some.inj e ▸ h⟩
  | _, _, .cons _ k, i + 1, _, e => k.at' (i := i) e
theorem DxAll.mem {H : Hp} : ∀ {vs : List V} {ds : List PyData}, DxAll H vs ds → ∀ {v : V}, v ∈ vs → ∃ d, d ∈ ds ∧ Dx H v d
  | _, _, .nil, _, e => nomatch e
  | _, _, .cons h k, v, e => by
    rcases List.mem_cons.mp e with z | z
    · subst z; exact ⟨_, List.mem_cons_self .., h⟩
    · obtain ⟨d, m, q⟩ := k.mem z
      exact ⟨d, List.mem_cons_of_mem _ m, q⟩
theorem DxAll.app {H : Hp} : ∀ {vs us : List V} {ds es : List PyData}, DxAll H vs ds → DxAll H us es → DxAll H (vs ++ us) (ds ++ es)
  | _, _, _, _, .nil, q => q
  | _, _, _, _, .cons h k, q => .cons h (k.app q)
theorem DxAll.take {H : Hp} : ∀ {vs : List V} {ds : List PyData} (n : Nat), DxAll H vs ds → DxAll H (vs.take n) (ds.take n)
  | _, _, 0, _ => .nil
  | _, _, _ + 1, .nil => .nil
  | _, _, n + 1, .cons h k => .cons h (DxAll.take n k)
theorem DxAll.drop {H : Hp} : ∀ {vs : List V} {ds : List PyData} (n : Nat), DxAll H vs ds → DxAll H (vs.drop n) (ds.drop n)
  | _, _, 0, q => q
  | _, _, _ + 1, .nil => .nil
  | _, _, n + 1, .cons _ k => DxAll.drop n k
theorem DxAll.set {H : Hp} : ∀ {vs : List V} {ds : List PyData} (n : Nat) {v : V} {d : PyData}, DxAll H vs ds → Dx H v d → DxAll H (vs.set n v) (ds.set n d)
  | _, _, _, _, _, .nil, _ => .nil
  | _, _, 0, _, _, .cons _ k, q => .cons q k
  | _, _, n + 1, _, _, .cons h k, q => .cons h (DxAll.set n k q)
theorem DxAll.rep {H : Hp} {vs : List V} {ds : List PyData} (h : DxAll H vs ds) : ∀ n : Nat, DxAll H (List.replicate n vs).flatten (List.replicate n ds).flatten
  | 0 => .nil
  | n + 1 => by
    rw [List.replicate_succ, List.replicate_succ, List.flatten_cons, List.flatten_cons]
    exact h.app (DxAll.rep h n)
theorem Dx.kd {H : Hp} {v : V} {d : PyData} (h : Dx H v d) : Kd H v := by
  cases h with
  | non => exact .non
  | bl b => exact .bl b
  | int i => exact .int i
  | str x => exact .str x
  | lst e _ => exact .lst e
  | tup e _ => exact .tup e
  | dk e => exact .dk e
mutual
theorem Dx.dp {K : PySem.W.Frag} {H : Hp} : ∀ {v : V} {d : PyData}, Dx H v d → d.hasDict = false → Dp K H v d
  | _, _, .non, _ => .non
  | _, _, .bl b, _ => .bl b
  | _, _, .int i, _ => .int i
  | _, _, .str x, _ => .str x
  | _, _, .lst e h, z => .lst (.of e) (DxAll.dp h (by simpa [PyData.hasDict] using z))
  | _, _, .tup e h, z => .tup (.of e) (DxAll.dp h (by simpa [PyData.hasDict] using z))
  | _, _, .dk _, z => by simp [PyData.hasDict] at z
theorem DxAll.dp {K : PySem.W.Frag} {H : Hp} : ∀ {vs : List V} {ds : List PyData}, DxAll H vs ds → PyData.hasDictAll ds = false → DpAll K H vs ds
  | _, _, .nil, _ => .nil
  | _, _, .cons h k, z => by
    simp only [PyData.hasDictAll, Bool.or_eq_false_iff] at z
    exact .cons (Dx.dp h z.1) (DxAll.dp k z.2)
end
mutual
theorem Dx.one {H : Hp} : ∀ {v : V} {d d' : PyData}, Dx H v d → Dx H v d' → d = d'
  | _, _, _, .non, h => by cases h; rfl
  | _, _, _, .bl b, h => by cases h; rfl
  | _, _, _, .int i, h => by cases h; rfl
  | _, _, _, .str x, h => by cases h; rfl
  | _, _, _, .lst e k, h => by
    cases h with
    | lst e' k' => rw [e] at e'; cases e'; rw [DxAll.one k k']
    | tup e' _ => rw [e] at e'; cases e'
    | dk e' => rw [e] at e'; cases e'
  | _, _, _, .tup e k, h => by
    cases h with
    | tup e' k' => rw [e] at e'; cases e'; rw [DxAll.one k k']
    | lst e' _ => rw [e] at e'; cases e'
    | dk e' => rw [e] at e'; cases e'
  | _, _, _, .dk e, h => by
    cases h with
    | dk e' => rfl
    | lst e' _ => rw [e] at e'; cases e'
    | tup e' _ => rw [e] at e'; cases e'
theorem DxAll.one {H : Hp} : ∀ {vs : List V} {ds ds' : List PyData}, DxAll H vs ds → DxAll H vs ds' → ds = ds'
  | _, _, _, .nil, h => by cases h; rfl
  | _, _, _, .cons h k, q => by
    cases q with
    | cons h' k' => rw [Dx.one h h', DxAll.one k k']
end
/-! ### its kind asked -/
def dTup : PyData → Bool | .tuple _ => true | _ => false
def dLst : PyData → Bool | .list _ => true | _ => false
def dStr : PyData → Bool | .str _ => true | _ => false
def dInt : PyData → Bool | .int _ => true | .bool _ => true | _ => false
def dBool : PyData → Bool | .bool _ => true | _ => false
def dDict : PyData → Bool | .dict _ => true | _ => false
section
variable {K : PySem.W.Frag} {H : Hp} {v : V} {d : PyData}
theorem Dx.tup? (h : Dx H v d) : ∃ t, TyX K H v t ∧ PySem.W.kitOne K t (.type "tuple") = some (dTup d) := by
  cases h with
  | non => exact ⟨_, .base .non, kit_ty (by decide +kernel)⟩
  | bl b => exact ⟨_, .base (.bl b), kit_ty (r := false) (by decide +kernel)⟩
  | int i => exact ⟨_, .base (.int i), kit_ty (r := false) (by decide +kernel)⟩
  | str x => exact ⟨_, .base (.str x), kit_ty (r := false) (by decide +kernel)⟩
  | lst e => exact ⟨_, .base (.lst e), kit_ty (r := false) (by decide +kernel)⟩
  | tup e => exact ⟨_, .base (.tup e), kit_ty (r := true) (by decide +kernel)⟩
  | dk e => exact ⟨_, .base (.dK e), kit_ty (r := false) (by decide +kernel)⟩
theorem Dx.lst? (h : Dx H v d) : ∃ t, TyX K H v t ∧ PySem.W.kitOne K t (.type "list") = some (dLst d) := by
  cases h with
  | non => exact ⟨_, .base .non, kit_ty (by decide +kernel)⟩
  | bl b => exact ⟨_, .base (.bl b), kit_ty (r := false) (by decide +kernel)⟩
  | int i => exact ⟨_, .base (.int i), kit_ty (r := false) (by decide +kernel)⟩
  | str x => exact ⟨_, .base (.str x), kit_ty (r := false) (by decide +kernel)⟩
  | lst e => exact ⟨_, .base (.lst e), kit_ty (r := true) (by decide +kernel)⟩
  | tup e => exact ⟨_, .base (.tup e), kit_ty (r := false) (by decide +kernel)⟩
  | dk e => exact ⟨_, .base (.dK e), kit_ty (r := false) (by decide +kernel)⟩
theorem Dx.dict? (h : Dx H v d) : ∃ t, TyX K H v t ∧ PySem.W.kitOne K t (.type "dict") = some (dDict d) := by
  cases h with
  | non => exact ⟨_, .base .non, kit_ty (by decide +kernel)⟩
  | bl b => exact ⟨_, .base (.bl b), kit_ty (r := false) (by decide +kernel)⟩
  | int i => exact ⟨_, .base (.int i), kit_ty (r := false) (by decide +kernel)⟩
  | str x => exact ⟨_, .base (.str x), kit_ty (r := false) (by decide +kernel)⟩
  | lst e => exact ⟨_, .base (.lst e), kit_ty (r := false) (by decide +kernel)⟩
  | tup e => exact ⟨_, .base (.tup e), kit_ty (r := false) (by decide +kernel)⟩
  | dk e => exact ⟨_, .base (.dK e), kit_ty (r := true) (by decide +kernel)⟩
theorem Dx.str? (h : Dx H v d) : ∃ t, TyX K H v t ∧ PySem.W.kitOne K t (.type "str") = some (dStr d) := by
  cases h with
  | non => exact ⟨_, .base .non, kit_ty (by decide +kernel)⟩
  | bl b => exact ⟨_, .base (.bl b), kit_ty (r := false) (by decide +kernel)⟩
  | int i => exact ⟨_, .base (.int i), kit_ty (r := false) (by decide +kernel)⟩
  | str x => exact ⟨_, .base (.str x), kit_ty (r := true) (by decide +kernel)⟩
  | lst e => exact ⟨_, .base (.lst e), kit_ty (r := false) (by decide +kernel)⟩
  | tup e => exact ⟨_, .base (.tup e), kit_ty (r := false) (by decide +kernel)⟩
  | dk e => exact ⟨_, .base (.dK e), kit_ty (r := false) (by decide +kernel)⟩
theorem Dx.int? (h : Dx H v d) : ∃ t, TyX K H v t ∧ PySem.W.kitOne K t (.type "int") = some (dInt d) := by
  cases h with
  | non => exact ⟨_, .base .non, kit_ty (by decide +kernel)⟩
  | bl b => exact ⟨_, .base (.bl b), kit_ty (r := true) (by decide +kernel)⟩
  | int i => exact ⟨_, .base (.int i), kit_ty (r := true) (by decide +kernel)⟩
  | str x => exact ⟨_, .base (.str x), kit_ty (r := false) (by decide +kernel)⟩
  | lst e => exact ⟨_, .base (.lst e), kit_ty (r := false) (by decide +kernel)⟩
  | tup e => exact ⟨_, .base (.tup e), kit_ty (r := false) (by decide +kernel)⟩
  | dk e => exact ⟨_, .base (.dK e), kit_ty (r := false) (by decide +kernel)⟩
theorem Dx.bool? (h : Dx H v d) : ∃ t, TyX K H v t ∧ PySem.W.kitOne K t (.type "bool") = some (dBool d) := by
  cases h with
  | non => exact ⟨_, .base .non, kit_ty (by decide +kernel)⟩
  | bl b => exact ⟨_, .base (.bl b), kit_ty (r := true) (by decide +kernel)⟩
  | int i => exact ⟨_, .base (.int i), kit_ty (r := false) (by decide +kernel)⟩
  | str x => exact ⟨_, .base (.str x), kit_ty (r := false) (by decide +kernel)⟩
  | lst e => exact ⟨_, .base (.lst e), kit_ty (r := false) (by decide +kernel)⟩
  | tup e => exact ⟨_, .base (.tup e), kit_ty (r := false) (by decide +kernel)⟩
  | dk e => exact ⟨_, .base (.dK e), kit_ty (r := false) (by decide +kernel)⟩
end
theorem Dx.int_of {H : Hp} {v : V} {i : Int} (h : Dx H v (.int i)) : v = .int i := by cases h; rfl
theorem Dx.str_of {H : Hp} {v : V} {s : Str} (h : Dx H v (.str s)) : v = .str s := by cases h; rfl
theorem Dx.tup_of {H : Hp} {v : V} {ds : List PyData} (h : Dx H v (.tuple ds)) : ∃ p xs, v = .ref p ∧ H p = some (.tup xs) ∧ DxAll H xs ds := by
  cases h with
  | tup e k => exact ⟨_, _, rfl, e, k⟩
theorem Dx.lst_of {H : Hp} {v : V} {ds : List PyData} (h : Dx H v (.list ds)) : ∃ p xs, v = .ref p ∧ H p = some (.lst xs) ∧ DxAll H xs ds := by
  cases h with
  | lst e k => exact ⟨_, _, rfl, e, k⟩
/-! ### shown -/
/-- small enough to be shown: its weight, its depth -/
structure Fit (n k : Nat) (d : PyData) : Prop where
  sh : d.showable = true
  lv : d.leavesShort 600 = true
  wt : d.weight ≤ n
  dp : d.depth ≤ k
structure FitAll (n k : Nat) (ds : List PyData) : Prop where
  sh : PyData.showableAll ds = true
  lv : PyData.leavesShortAll 600 ds = true
  wt : PyData.weightAll ds ≤ n
  dp : PyData.depthAll ds ≤ k
theorem Fit.mono {n k n' k' : Nat} {d : PyData} (f : Fit n k d) (h : n ≤ n') (h2 : k ≤ k') : Fit n' k' d := ⟨f.sh, f.lv, Nat.le_trans f.wt h, Nat.le_trans f.dp h2⟩
theorem FitAll.nil {n k : Nat} : FitAll n k [] := ⟨by simp [PyData.showableAll], by simp [PyData.leavesShortAll], by simp [PyData.weightAll], by simp [PyData.depthAll]⟩
theorem FitAll.cons {n m k : Nat} {d : PyData} {ds : List PyData} (f : Fit n k d) (g : FitAll m k ds) : FitAll (n + 1 + m) k (d :: ds) :=
  ⟨by simp [PyData.showableAll, f.sh, g.sh], by simp [PyData.leavesShortAll, f.lv, g.lv], by simp only [PyData.weightAll]; have := f.wt; have := g.wt; omega, by simp only [PyData.depthAll]; have := f.dp; have := g.dp; omega⟩
theorem FitAll.of {n k : Nat} : ∀ {ds : List PyData}, (∀ d ∈ ds, Fit n k d) → FitAll ((n + 1) * ds.length) k ds
  | [], _ => .nil
  | d :: ds, h => by
    have f := h d (List.mem_cons_self ..)
    have g := FitAll.of fun x hx => h x (List.mem_cons_of_mem _ hx)
    have c := FitAll.cons f g
    refine ⟨c.sh, c.lv, ?_, c.dp⟩
    rw [List.length_cons, Nat.mul_add, Nat.mul_one]
    have := c.wt
    omega
theorem FitAll.mono {n k n' k' : Nat} {ds : List PyData} (f : FitAll n k ds) (h : n ≤ n') (h2 : k ≤ k') : FitAll n' k' ds := ⟨f.sh, f.lv, Nat.le_trans f.wt h, Nat.le_trans f.dp h2⟩
theorem FitAll.list {n k : Nat} {ds : List PyData} (f : FitAll n k ds) : Fit n (k + 1) (.list ds) := ⟨by simp only [PyData.showable]; exact f.sh, by simp only [PyData.leavesShort]; exact f.lv, by simp only [PyData.weight]; exact f.wt, by simp only [PyData.depth]; have := f.dp; omega⟩
theorem FitAll.tuple {n k : Nat} {ds : List PyData} (f : FitAll n k ds) : Fit n (k + 1) (.tuple ds) := ⟨by simp only [PyData.showable]; exact f.sh, by simp only [PyData.leavesShort]; exact f.lv, by simp only [PyData.weight]; exact f.wt, by simp only [PyData.depth]; have := f.dp; omega⟩
theorem Fit.line {n k : Nat} {d : PyData} (f : Fit n k d) (h : n ≤ 25000) : d.shown.length ≤ sizeLine := by
  have := PyData.shown_le 600 (by decide) d f.lv
  have := f.wt
  rw [sizeLine_eq]; omega
structure Nice (n k : Nat) (d : PyData) : Prop where
  ft : Fit n k d
  ly : d.canLay0 = true
structure NiceAll (n k : Nat) (ds : List PyData) : Prop where
  ft : FitAll n k ds
  ly : PyData.canLayAll0 ds = true
theorem Nice.mono {n k n' k' : Nat} {d : PyData} (f : Nice n k d) (h : n ≤ n') (h2 : k ≤ k') : Nice n' k' d := ⟨f.ft.mono h h2, f.ly⟩
theorem NiceAll.mono {n k n' k' : Nat} {ds : List PyData} (f : NiceAll n k ds) (h : n ≤ n') (h2 : k ≤ k') : NiceAll n' k' ds := ⟨f.ft.mono h h2, f.ly⟩
theorem NiceAll.nil {n k : Nat} : NiceAll n k [] := ⟨.nil, by simp [PyData.canLayAll0]⟩
theorem NiceAll.cons {n m k : Nat} {d : PyData} {ds : List PyData} (f : Nice n k d) (g : NiceAll m k ds) : NiceAll (n + 1 + m) k (d :: ds) := ⟨.cons f.ft g.ft, by simp [PyData.canLayAll0, f.ly, g.ly]⟩
theorem NiceAll.list {n k : Nat} {ds : List PyData} (f : NiceAll n k ds) : Nice n (k + 1) (.list ds) := ⟨f.ft.list, by simp only [PyData.canLay0]; exact f.ly⟩
theorem NiceAll.tuple {n k : Nat} {ds : List PyData} (f : NiceAll n k ds) : Nice n (k + 1) (.tuple ds) := ⟨f.ft.tuple, by simp only [PyData.canLay0]; exact f.ly⟩
theorem NiceAll.mem {n k : Nat} : ∀ {ds : List PyData}, NiceAll n k ds → ∀ {d : PyData}, d ∈ ds → Nice n k d
  | x :: r, h, d, m => by
    have h1 := h.ft.sh; have h2 := h.ft.lv; have h3 := h.ft.wt; have h4 := h.ft.dp; have h5 := h.ly
    simp only [PyData.showableAll, PyData.leavesShortAll, PyData.weightAll, PyData.depthAll, PyData.canLayAll0, Bool.and_eq_true] at h1 h2 h3 h4 h5
    rcases List.mem_cons.mp m with e | e
    · subst e
      exact ⟨⟨h1.1, h2.1, by omega, by omega⟩, h5.1⟩
    · have g : NiceAll n k r := ⟨⟨h1.2, h2.2, by omega, by omega⟩, h5.2⟩
      exact g.mem e
theorem NiceAll.of {n k : Nat} : ∀ {ds : List PyData}, (∀ d ∈ ds, Nice n k d) → NiceAll ((n + 1) * ds.length) k ds := fun {ds} h =>
  ⟨.of fun d hd => (h d hd).ft, by
    induction ds with
    | nil => simp [PyData.canLayAll0]
    | cons x r ih =>
      simp only [PyData.canLayAll0, (h x (List.mem_cons_self ..)).ly, ih fun d hd => h d (List.mem_cons_of_mem _ hd), Bool.and_self]⟩
theorem nice_none {n k : Nat} : Nice n k .none := ⟨⟨by simp [PyData.showable], by decide +kernel, by simp [PyData.weight], by simp [PyData.depth]⟩, by simp [PyData.canLay0]⟩
theorem nice_bool {n k : Nat} (b : Bool) : Nice n k (.bool b) := ⟨⟨by simp [PyData.showable], by cases b <;> decide +kernel, by simp [PyData.weight], by simp [PyData.depth]⟩, by simp [PyData.canLay0]⟩
theorem nice_int {i : Int} {m k : Nat} (h : i.natAbs < 2 ^ m) (hm : m ≤ 160) : Nice m k (.int i) := by
  have h2 : (2 : Nat) ^ m ≤ 2 ^ 160 := Nat.pow_le_pow_right (by decide) hm
  have h3 : (2 : Nat) ^ 160 = 16 ^ 40 := by rw [show (16 : Nat) = 2 ^ 4 by decide, ← Nat.pow_mul]
  have l : i.natAbs ≠ 0 → i.natAbs.log2 < m := fun z => (Nat.log2_lt z).mpr h
  have l0 : i.natAbs = 0 → i.natAbs.log2 = 0 := fun z => by rw [z]; decide
  have e : (PyData.int i).shown.length ≤ 60 := by
    simp only [PyData.shown]
    have h4 : i.natAbs < 10 ^ 49 := Nat.lt_of_lt_of_le h (Nat.le_trans h2 (by decide))
    have e2 := int_text_length_le10 (k := 49) (by decide) h4
    rw [PySem.ofString_length]; omega
  refine ⟨⟨?_, ?_, ?_, by simp [PyData.depth]⟩, by simp [PyData.canLay0]⟩
  · have lm : i.natAbs.log2 ≤ m := by
      by_cases z : i.natAbs = 0
      · rw [l0 z]; omega
      · have := l z; omega
    simp only [PyData.showable]
    exact decide_eq_true (by omega)
  · simp only [PyData.leavesShort]; exact decide_eq_true (by omega)
  · simp only [PyData.weight]
    split
    · omega
    · rename_i z
      have : i.natAbs ≠ 0 := fun y => z (by simpa using y)
      have := l this
      omega
theorem nice_str {z : Str} {n k : Nat} (h : PyData.strOk z = true) (hn : z.cps.size ≤ n) : Nice n k (.str z) := by
  refine ⟨⟨by simp [PyData.showable], ?_, by simp only [PyData.weight]; exact hn, by simp [PyData.depth]⟩, by simp only [PyData.canLay0]; exact h⟩
  simp only [PyData.leavesShort]
  rw [List.all_eq_true]
  intro c hc
  unfold PyData.strOk at h
  rw [Array.all_eq_true_iff_forall_mem] at h
  have := of_decide_eq_true (h c (by simpa using hc))
  exact decide_eq_true (Nat.lt_trans this (by decide))
theorem nice_lit {z : Str} {n k : Nat} (h : (PyData.strOk z && decide (z.cps.size ≤ n)) = true) : Nice n k (.str z) := by
  rw [Bool.and_eq_true, decide_eq_true_iff] at h
  exact nice_str h.1 h.2
mutual
theorem lay_nodict : ∀ {d : PyData}, d.canLay0 = true → d.hasDict = false
  | .none, _ => by simp [PyData.hasDict]
  | .bool _, _ => by simp [PyData.hasDict]
  | .int _, _ => by simp [PyData.hasDict]
  | .str _, _ => by simp [PyData.hasDict]
  | .list ds, h => by simp only [PyData.canLay0, PyData.hasDict] at *; exact layAll_nodict h
  | .tuple ds, h => by simp only [PyData.canLay0, PyData.hasDict] at *; exact layAll_nodict h
  | .dict _, h => by simp [PyData.canLay0] at h
theorem layAll_nodict : ∀ {ds : List PyData}, PyData.canLayAll0 ds = true → PyData.hasDictAll ds = false
  | [], _ => by simp [PyData.hasDictAll]
  | d :: ds, h => by
    simp only [PyData.canLayAll0, PyData.hasDictAll, Bool.and_eq_true, Bool.or_eq_false_iff] at *
    exact ⟨lay_nodict h.1, layAll_nodict h.2⟩
end
theorem Nice.shaped {n k : Nat} {d : PyData} (f : Nice n k d) (h : k ≤ 64) : SeqAt.shaped d = true := by
  unfold SeqAt.shaped
  rw [f.ly]
  have := f.ft.dp
  simp; omega
theorem Nice.nd {n k : Nat} {d : PyData} (f : Nice n k d) : d.hasDict = false := lay_nodict f.ly
/-! ### lists of texts compared -/
theorem ext_str {x y : Str} (h : x.cps.toList = y.cps.toList) : x = y := by
  cases x; cases y
  simp only at h
  rw [Array.toList_inj.mp h]
theorem rcs_ext {r : Str} (h : (rcs (hasR r) 9).map V.str = signs r) : r = rtx (hasR r) := by
  refine ext_str ?_
  rw [rtx_codes]
  unfold signs rcs at h
  rw [List.map_map] at h
  have e1 : List.map (V.str ∘ fun k => one (code k)) (List.filter (hasR r) (List.range 9)) = ((List.filter (hasR r) (List.range 9)).map code).map fun c => V.str (one c) := by
    rw [List.map_map]; rfl
  rw [e1] at h
  refine ((List.map_inj_right ?_).mp h).symm
  intro a b e
  have e3 : (#[a] : Array Nat) = #[b] := congrArg Str.cps (V.str.inj e)
  simpa using e3
theorem rcs_sig {r : Str} (h : r = rtx (hasR r)) : (rcs (hasR r) 9).map V.str = signs r := by
  have e : signs r = signs (rtx (hasR r)) := by rw [← h]
  rw [e]
  unfold signs rcs
  rw [rtx_codes, List.map_map, List.map_map]; rfl
theorem lay_strs : ∀ l : List Str, (∀ x ∈ l, PyData.strOk x = true) → PyData.canLay0 (.list (l.map .str)) = true := by
  intro l h
  rw [PyData.canLay0]
  induction l with
  | nil => simp [PyData.canLayAll0]
  | cons x l ih =>
    simp only [List.map_cons, PyData.canLayAll0, PyData.canLay0, Bool.and_eq_true]
    exact ⟨h x (by simp), ih fun y hy => h y (by simp [hy])⟩
theorem depth_strs : ∀ l : List Str, PyData.depth (.list (l.map .str)) ≤ 1 := by
  intro l
  rw [PyData.depth]
  have : PyData.depthAll (l.map .str) = 0 := by
    induction l with
    | nil => simp [PyData.depthAll]
    | cons x l ih => simp only [List.map_cons, PyData.depthAll, ih]; simp [PyData.depth]
  omega
theorem shaped_strs {l : List Str} (h : ∀ x ∈ l, PyData.strOk x = true) : SeqAt.shaped (.list (l.map .str)) = true := by
  unfold SeqAt.shaped
  rw [lay_strs l h, Bool.true_and]
  have := depth_strs l
  exact decide_eq_true (by omega)
theorem dp_txts {K : PySem.W.Frag} {H : Hp} {p : Addr} {l : List Str} (h : H p = some (.lst (l.map V.str))) : Dp K H (.ref p) (.list (l.map .str)) := by
  refine .lst (.of h) ?_
  clear h
  induction l with
  | nil => exact .nil
  | cons x l ih => exact .cons (.str x) ih
theorem eqv_strs {l m : List Str} : PyData.eqv (.list (l.map .str)) (.list (m.map .str)) = true ↔ l = m := by
  rw [PyData.eqv]
  induction l generalizing m with
  | nil => cases m <;> simp [PyData.eqvAll]
  | cons x l ih =>
    cases m with
    | nil => simp [PyData.eqvAll]
    | cons y m =>
      simp only [List.map_cons, PyData.eqvAll, Bool.and_eq_true, List.cons.injEq, ih]
      simp [PyData.eqv]
theorem signs_strs (z : Str) : signs z = (z.cps.toList.map one).map V.str := by unfold signs one; rw [List.map_map]; rfl
theorem ok_signs {z : Str} (h : PyData.strOk z = true) : ∀ x ∈ z.cps.toList.map one, PyData.strOk x = true := by
  intro x hx
  obtain ⟨c, hc, rfl⟩ := List.mem_map.mp hx
  unfold PyData.strOk at h ⊢
  rw [Array.all_eq_true_iff_forall_mem] at h
  have := h c (by simpa using hc)
  unfold one
  simpa using this
theorem code_small : ∀ k, k < 9 → code k < 1114112 := by decide
theorem ok_rcs (p : Nat → Bool) : ∀ x ∈ rcs p 9, PyData.strOk x = true := by
  intro x hx
  unfold rcs at hx
  obtain ⟨k, hk, rfl⟩ := List.mem_map.mp hx
  have k9 := List.mem_range.mp (List.mem_filter.mp hk).1
  have := code_small k k9
  unfold PyData.strOk one
  simpa using this

/-! ### whole numbers as texts -/
def numI (i : Int) : List Nat := if i < 0 then 45 :: TL.numL (-i).toNat else TL.numL i.toNat
theorem num_text (i : Int) : Str.ofString (toString i) = SX.S (numI i) := by
  rcases Int.lt_or_le i 0 with h | h
  · obtain ⟨n, rfl⟩ : ∃ n : Nat, i = Int.negSucc n := by
      cases i with
      | ofNat n => exact absurd h (by simp)
      | negSucc n => exact ⟨n, rfl⟩
    unfold numI
    rw [if_pos h]
    have e : (-(Int.negSucc n)).toNat = n + 1 := rfl
    rw [e]
    refine TL.ext_tl ?_
    have t : toString (Int.negSucc n) = "-" ++ toString (((n + 1 : Nat)) : Int) := rfl
    rw [t, TL.tl_ofString, String.toList_append, List.map_append]
    have := TL.tl_num (n + 1)
    rw [TL.tl_ofString] at this
    rw [this]
    rfl
  · obtain ⟨n, rfl⟩ : ∃ n : Nat, i = (n : Int) := ⟨i.toNat, by omega⟩
    unfold numI
    rw [if_neg (by omega), Int.toNat_natCast]
    exact SX.num_S n
def isF (c : Nat) : Bool := decide (48 ≤ c) && decide (c ≤ 57)
def negL (z : List Nat) : Bool := decide (z.head? = some 45)
def figs (z : List Nat) : List Nat := if negL z = true then z.tail else z
def wholeOk (z : List Nat) : Bool := !(figs z).isEmpty && (figs z).all isF && decide ((figs z).length ≤ 30) && (decide ((figs z).head? ≠ some 48) || decide (z = [48]))
def wholeV (z : List Nat) : Int := if negL z = true then -((NumText.digitsVal (figs z) : Nat) : Int) else ((NumText.digitsVal (figs z) : Nat) : Int)
def wholeIn (z : List Nat) : PyData := if wholeOk z = true then .int (wholeV z) else .none
theorem S_one {c : Nat} : SX.S [c] = one c := rfl
theorem rem_S (z : List Nat) : Txt.removeprefix (SX.S z) (SX.S [45]) = SX.S (figs z) := by
  rw [PySem.StrLaws.removeprefix_eq, PySem.StrLaws.subAt_eq]
  have l1 : (SX.S [45]).length = 1 := rfl
  rw [l1, SX.S_len]
  unfold figs negL
  cases z with
  | nil => rfl
  | cons a r =>
    by_cases h : a = 45
    · subst h
      have t : (decide (0 + 1 ≤ (45 :: r).length) && (((SX.S (45 :: r)).cps.toList.drop 0).take 1 == (SX.S [45]).cps.toList)) = true := by
        simp
      rw [if_pos t, if_pos (by simp)]
      congr 1
      simp
    · have t : ¬ (decide (0 + 1 ≤ (a :: r).length) && (((SX.S (a :: r)).cps.toList.drop 0).take 1 == (SX.S [45]).cps.toList)) = true := by
        simp [h]
      rw [if_neg t, if_neg (by simp [h])]
theorem asc_S (f : List Nat) : Txt.isascii (SX.S f) = f.all (fun c => decide (c < 128)) := by
  unfold Txt.isascii
  rw [← Array.all_toList]
theorem dig_one {c : Nat} (h : c < 128) : Unicode.isDigit c = isF c := by
  have := PySem.W.os_isdigit h
  unfold Txt.isdigit at this
  simpa [isF, Str.length] using this
theorem dig_S {f : List Nat} (h : f.all (fun c => decide (c < 128)) = true) : Txt.isdigit (SX.S f) = (!f.isEmpty && f.all isF) := by
  unfold Txt.isdigit
  rw [← Array.all_toList]
  have e : f.all Unicode.isDigit = f.all isF := by
    induction f with
    | nil => rfl
    | cons c r ih =>
      simp only [List.all_cons, Bool.and_eq_true, decide_eq_true_iff] at h ⊢
      rw [dig_one h.1, ih h.2]
  have l : decide ((SX.S f).length > 0) = !f.isEmpty := by
    rw [SX.S_len]
    cases f <;> simp
  rw [l]
  show (_ && f.all Unicode.isDigit) = _
  rw [e]
theorem allF {f : List Nat} (h : f.all isF = true) : NumText.AllDigits f := fun c hc => by
  have := List.all_eq_true.mp h c hc
  unfold isF at this
  simpa using this
theorem asc_of {f : List Nat} (h : f.all isF = true) : f.all (fun c => decide (c < 128)) = true := by
  rw [List.all_eq_true]
  intro c hc
  have := allF h c hc
  exact decide_eq_true (by omega)
theorem whole_int {z : List Nat} (h : wholeOk z = true) : intText? (SX.S z) = some (wholeV z) := by
  unfold wholeOk at h
  simp only [Bool.and_eq_true, decide_eq_true_iff, Bool.not_eq_true'] at h
  obtain ⟨⟨⟨h1, h2⟩, h3⟩, _⟩ := h
  have ne : figs z ≠ [] := by intro e; rw [e] at h1; cases h1
  unfold wholeV
  unfold figs at ne h2 h3 ⊢
  by_cases c : negL z = true
  · rw [if_pos c] at ne h2 h3 ⊢
    rw [if_pos c]
    obtain ⟨r, rfl⟩ : ∃ r, z = 45 :: r := by
      have := of_decide_eq_true c
      cases z with
      | nil => cases this
      | cons a r => exact ⟨r, by rw [Option.some.inj this]⟩
    refine intText_neg (cs := r) rfl (allF h2) ne ?_
    rw [SX.S_len]
    have : r.length ≤ 30 := h3
    rw [List.length_cons]; omega
  · rw [if_neg c] at ne h2 h3 ⊢
    rw [if_neg c]
    refine intText_digits (x := SX.S z) (allF h2) ne ?_
    rw [SX.S_len]
    omega
theorem numL_head {n : Nat} (h : 0 < n) : (TL.numL n).head? ≠ some 48 := by
  induction n using Nat.strongRecOn with
  | ind n ih =>
    by_cases c : n < 10
    · rw [TL.numL_lt c]
      simp; omega
    · rw [TL.numL_step (by omega)]
      have := ih (n / 10) (by omega) (by omega)
      have ne := TL.numL_ne (n / 10)
      cases e : TL.numL (n / 10) with
      | nil => exact absurd e ne
      | cons a r => rw [e] at this; simpa using this
theorem numL_all (n : Nat) : (TL.numL n).all isF = true := by
  rw [List.all_eq_true]
  intro c hc
  have := TL.numL_digits n c hc
  unfold isF
  simp; exact this
theorem numL_not45 (n : Nat) : negL (TL.numL n) = false := by
  unfold negL
  refine decide_eq_false fun h => ?_
  have ne := TL.numL_ne n
  cases e : TL.numL n with
  | nil => exact ne e
  | cons a r =>
    rw [e] at h
    have : a = 45 := Option.some.inj h
    have := TL.numL_digits n a (by rw [e]; exact List.mem_cons_self ..)
    omega
theorem whole_num {i : Int} (h : i.natAbs < 10 ^ 29) : wholeIn (numI i) = .int i := by
  have key : ∀ n : Nat, n < 10 ^ 29 → (TL.numL n).length ≤ 29 := fun n hn => TL.numL_len (by decide) hn
  rcases Int.lt_or_le i 0 with c | c
  · have e : numI i = 45 :: TL.numL (-i).toNat := by unfold numI; rw [if_pos c]
    have n1 : negL (numI i) = true := by rw [e]; rfl
    have f : figs (numI i) = TL.numL (-i).toNat := by unfold figs; rw [if_pos n1, e]; rfl
    have ok : wholeOk (numI i) = true := by
      unfold wholeOk
      rw [f, numL_all]
      have h1 := key (-i).toNat (by omega)
      have h2 := numL_head (n := (-i).toNat) (by omega)
      have h3 := TL.numL_ne (-i).toNat
      simp [h2, h3]; omega
    unfold wholeIn
    rw [if_pos ok]
    unfold wholeV
    rw [if_pos n1, f, TL.numL_val]
    congr 1; omega
  · have e : numI i = TL.numL i.toNat := by unfold numI; rw [if_neg (by omega)]
    have n1 : negL (numI i) = false := by rw [e]; exact numL_not45 _
    have f : figs (numI i) = TL.numL i.toNat := by unfold figs; rw [n1, if_neg (by decide), e]
    have ok : wholeOk (numI i) = true := by
      unfold wholeOk
      rw [f, numL_all]
      have h1 := key i.toNat (by omega)
      have h3 := TL.numL_ne i.toNat
      by_cases z : i = 0
      · subst z
        have : TL.numL (0 : Int).toNat = [48] := TL.numL_lt (by decide)
        rw [e, this]; rfl
      · have h2 := numL_head (n := i.toNat) (by omega)
        simp [h2, h3]; omega
    unfold wholeIn
    rw [if_pos ok]
    unfold wholeV
    rw [n1, if_neg (by decide), f, TL.numL_val]
    congr 1; omega
theorem numI_codes {i : Int} {c : Nat} (h : c ∈ numI i) : c = 45 ∨ (48 ≤ c ∧ c ≤ 57) := by
  unfold numI at h
  split at h
  · rcases List.mem_cons.mp h with e | e
    · exact .inl e
    · exact .inr (TL.numL_digits _ _ e)
  · exact .inr (TL.numL_digits _ _ h)
theorem numI_len {i : Int} {k : Nat} (hk : 0 < k) (h : i.natAbs < 10 ^ k) : (numI i).length ≤ k + 1 := by
  unfold numI
  split
  · have := TL.numL_len (n := (-i).toNat) hk (by omega)
    rw [List.length_cons]; omega
  · have := TL.numL_len (n := i.toNat) hk (by omega)
    omega
theorem numI_ne (i : Int) : numI i ≠ [] := by
  unfold numI
  split
  · exact List.cons_ne_nil _ _
  · exact TL.numL_ne _
theorem S_back (s : Str) : SX.S s.cps.toList = s := SX.S_tl s
theorem rtx_codes_mem {f : Nat → Bool} {c : Nat} (h : c ∈ (rtx f).cps.toList) : ∃ k, k < 9 ∧ c = code k := by
  rw [rtx_codes] at h
  obtain ⟨k, hk, e⟩ := List.mem_map.mp h
  exact ⟨k, List.mem_range.mp (List.mem_filter.mp hk).1, e.symm⟩
theorem code_big : ∀ k, k < 9 → 97 ≤ code k ∧ code k ≤ 122 := by decide
theorem call_strIS {X : Cx} : CallR X (.type "str") (fun xs H Q => (∃ i, xs = [.int i] ∧ i.natAbs.log2 < 1920 ∧ Q (.str (Str.ofString (toString i))) H) ∨ ∃ a, xs = [.str a] ∧ Q (.str a) H) := by
  intro pins s σ H xs us Q I r h
  rcases h with h | h
  · exact call_str_int pins s σ H xs us Q I r h
  · exact SkE.call_str_str pins s σ H xs us Q I r h
theorem log_small {i : Int} (h : i.natAbs < 2 ^ 200) : i.natAbs.log2 < 1920 := by
  by_cases z : i.natAbs = 0
  · rw [z]; decide
  · have := (Nat.log2_lt z).mpr h
    omega
theorem spl_len (c : Nat) : ∀ (z acc : List Nat), (TL.spl [c] 0 acc z).length ≤ z.length + 1
  | [], acc => by rw [TL.spl_nil]; simp
  | a :: r, acc => by
    by_cases h : a = c
    · subst h
      rw [TL.spl_hit (by simp [TL.pre])]
      have := spl_len a r []
      show (acc :: TL.spl [a] 0 [] r).length ≤ _
      rw [List.length_cons, List.length_cons]
      omega
    · rw [TL.spl_miss (by simp [TL.pre, h])]
      have := spl_len c r (acc ++ [a])
      rw [List.length_cons]; omega
theorem spl_mem (c : Nat) : ∀ (z acc : List Nat), ∀ p ∈ TL.spl [c] 0 acc z, p.length ≤ acc.length + z.length
  | [], acc, p, h => by
    rw [TL.spl_nil] at h
    rw [List.mem_singleton.mp h]; omega
  | a :: r, acc, p, h => by
    by_cases e : a = c
    · subst e
      rw [TL.spl_hit (by simp [TL.pre])] at h
      replace h : p ∈ acc :: TL.spl [a] 0 [] r := h
      rcases List.mem_cons.mp h with q | q
      · rw [q]; omega
      · have := spl_mem a r [] p q
        simp only [List.length_nil, List.length_cons] at this ⊢
        omega
    · rw [TL.spl_miss (by simp [TL.pre, e])] at h
      have := spl_mem c r (acc ++ [a]) p h
      simp only [List.length_append, List.length_cons, List.length_nil] at this ⊢
      omega
theorem spl_ne (c : Nat) : ∀ (z acc : List Nat), TL.spl [c] 0 acc z ≠ []
  | [], acc => by rw [TL.spl_nil]; exact List.cons_ne_nil _ _
  | a :: r, acc => by
    by_cases e : a = c
    · subst e
      rw [TL.spl_hit (by simp [TL.pre])]; exact List.cons_ne_nil _ _
    · rw [TL.spl_miss (by simp [TL.pre, e])]; exact spl_ne c r _
theorem split_one (c : Nat) (hc : c < 256) (z : List Nat) : Txt.split (SX.S z) (SX.S [c]) = (TL.spl [c] 0 [] z).map SX.S := SX.split_S (List.cons_ne_nil _ _) (by simp [hc])

theorem whole_false {z : List Nat} (h : wholeOk z = false) : wholeIn z = .none := by unfold wholeIn; rw [h]; exact if_neg Bool.false_ne_true
theorem whole_asc {z : List Nat} (h : Txt.isascii (SX.S (figs z)) = false) : wholeOk z = false := by
  cases e : wholeOk z with
  | false => rfl
  | true =>
    unfold wholeOk at e
    simp only [Bool.and_eq_true] at e
    rw [asc_S, asc_of e.1.1.2] at h
    cases h
theorem whole_dig {z : List Nat} (h : Txt.isascii (SX.S (figs z)) = true) : Txt.isdigit (SX.S (figs z)) = (!(figs z).isEmpty && (figs z).all isF) := dig_S (by rw [← asc_S]; exact h)
theorem whole_dig0 {z : List Nat} (h : Txt.isascii (SX.S (figs z)) = true) (k : Txt.isdigit (SX.S (figs z)) = false) : wholeOk z = false := by
  rw [whole_dig h] at k
  unfold wholeOk
  rw [k]; rfl
theorem whole_long {z : List Nat} (h : (figs z).length > 30) : wholeOk z = false := by
  cases e : wholeOk z with
  | false => rfl
  | true =>
    unfold wholeOk at e
    simp only [Bool.and_eq_true, decide_eq_true_iff] at e
    omega
theorem whole_dig1 {z : List Nat} (h : Txt.isascii (SX.S (figs z)) = true) (k : Txt.isdigit (SX.S (figs z)) = true) (l : ¬ (figs z).length > 30) : (∃ c r, figs z = c :: r) ∧ (wholeOk z = false ↔ (figs z).head? = some 48 ∧ z ≠ [48]) := by
  rw [whole_dig h] at k
  refine ⟨?_, ?_⟩
  · cases e : figs z with
    | nil => rw [e] at k; cases k
    | cons c r => exact ⟨c, r, rfl⟩
  · unfold wholeOk
    rw [k]
    have l2 : decide ((figs z).length ≤ 30) = true := decide_eq_true (by omega)
    rw [l2, Bool.true_and, Bool.true_and, Bool.or_eq_false_iff, decide_eq_false_iff_not, decide_eq_false_iff_not, Decidable.not_not]
theorem S_ne {a b : List Nat} : (SX.S a ≠ SX.S b) ↔ a ≠ b := ⟨fun h e => h (by rw [e]), fun h e => h (SX.S_inj e)⟩
theorem figs_len (z : List Nat) : (figs z).length ≤ z.length ∧ z.length ≤ (figs z).length + 1 := by
  unfold figs
  split
  · rw [List.length_tail]; omega
  · omega
theorem whole_len {z : List Nat} (h : wholeOk z = true) : z.length ≤ 31 := by
  unfold wholeOk at h
  simp only [Bool.and_eq_true, decide_eq_true_iff] at h
  have := (figs_len z).2
  omega
theorem zero_S : Str.ofString "0" = SX.S [48] := by decide +kernel
theorem one_inj {a b : Nat} (h : one a = one b) : a = b := by
  have : (#[a] : Array Nat) = #[b] := congrArg Str.cps h
  simpa using this
theorem starts_S (z : List Nat) (c : Nat) : Txt.startswith (SX.S z) (SX.S [c]) = decide (z.head? = some c) := by
  unfold Txt.startswith
  rw [PySem.StrLaws.subAt_eq]
  have l1 : (SX.S [c]).length = 1 := rfl
  rw [l1, SX.S_len]
  cases z with
  | nil => simp
  | cons a r =>
    simp
    rw [Bool.eq_iff_iff, beq_iff_eq, decide_eq_true_iff]
theorem cut1_S (z : List Nat) : cutS (SX.S z) (some 1) none = SX.S z.tail := by
  rw [C8.cutS_slice, SX.slice_from (by decide)]
  congr 1
  cases z <;> rfl
theorem minus_S : Str.ofString "-" = SX.S [45] := by decide +kernel
theorem hash_S : Str.ofString "#" = SX.S [35] := by decide +kernel
theorem nil_S : Str.ofString "" = SX.S [] := by decide +kernel
theorem nl_S : Str.ofString "\n" = SX.S [10] := by decide +kernel
theorem blank_S : Str.ofString " " = SX.S [32] := by decide +kernel
theorem whole_or (z : List Nat) : wholeIn z = .none ∨ ∃ i, wholeIn z = .int i := by
  unfold wholeIn
  split
  · exact .inr ⟨_, rfl⟩
  · exact .inl rfl
theorem whole_any {H H' : Hp} {v : V} {z : List Nat} (h : Dx H v (wholeIn z)) : Dx H' v (wholeIn z) := by
  rcases whole_or z with e | ⟨i, e⟩
  · rw [e] at h ⊢; cases h; exact .non
  · rw [e] at h ⊢; cases h; exact .int i
def LetsV (K : PySem.W.Frag) (x f : Str) (v : V) (H : Hp) (E : XK) : Prop := ∀ (C d : Addr) (H1 : Hp), PySem.W.nsIn K mainGlobals x = some (some (.ref C)) → Same H H1 → H1 d = none → E (.ref C) (some d) (upd H1 d (.xd [(f, v)]))
/-! ### a def with a named default that raises, called in a try -/
theorem pe_calXD {X : Cx} {x : Str} {k : Nat} {ps : List Str} {dvs : List V} {sp : Sp} {e : Expr} {es : List Expr} {t : TA} {W : WX} {p pos : Pos} (C : CalXD X.prog X.w X.K X.mg X.base x k ps dvs sp) (hr : Room k X.A) (tk : Takes X W)
    (ha : PA X (e :: es) t) (hg : Gl X x := by rfl) (hdb : (x == ("__debug__" : Str)) = false := by decide) (he : starEach (e :: es) X.env = (false, eval e X.env) :: starEach es X.env := by rfl) (hpl : (backTo pos (starEach es X.env)).any (·.1) = false := by rfl) :
    PE X (.Call (.Name x p) (e :: es) [] pos) (tCallSD sp dvs (WE W) t) := by
  obtain ⟨f, fd, ds, G, g, kp, hd, b⟩ := C.ex
  refine ⟨fun pins s σ H Q I h => ?_⟩
  refine wpAny_Call_Name_kw (ld_glob I hg g ?_ hdb)
  refine PySem.W.callWith_K (h₀ := X.base) I.ok.mod.kin kp (thn (ha.run pos pins s σ H _ I h) fun us s1 ⟨vs, H1, I1, r, q⟩ => ⟨I1.kIn, ?_⟩) he hpl
  exact run_fnSD G hr b hd (passAt tk σ) I1 r q
/-! ### a first statement whose call reads a written text: behind it a token is out -/
section
variable {X : Cx} {T id : String} {name : Str} {r : V → List V → Hp → VK → Prop} {o tg e e2 : Expr} {es : List Expr} {to te t2 : TE} {t : TA} {g : TG} {c : Str} {j : Nat} {cp apos cpos pos : Pos} {rest : List Stmt} {u : TS}
theorem pss_m1T (pa : PlainAttrs T) (slot : Slot T name id) (hty : typeOf (.builtin id) = pure (.type "method_descriptor")) (hm : MtR X id r) (ho : PE X o to) (hg : PG X tg g) (hr : PSsT X rest u)
    (hbase : attributeBase o name X.env (eval o X.env) = eval o X.env := by rfl)
    (hfew : ((backTo cpos (starEach [.Constant (.str c) j cp] X.env)).all (fun x => !x.1) && (backToKw cpos (keywordEach [] X.env)).all (fun x => x.1.isSome)
      && decide (([.Constant (.str c) j cp] : List Expr).length + ([] : List Keyword).length + (if ([] : List Keyword).isEmpty then 0 else 1) < 30)) = true := by rfl)
    (hline : (apos.endLine == cpos.line) = true := by rfl) (hst : starEach [.Constant (.str c) j cp] X.env = (false, eval (.Constant (.str c) j cp) X.env) :: starEach [] X.env := by rfl)
    (hs : swapsWithSole [tg] (.Call (.Attribute o name apos) [.Constant (.str c) j cp] [] cpos) pos.line X.env = pure false := by rfl) (hw : swappedStores [tg] (.Call (.Attribute o name apos) [.Constant (.str c) j cp] [] cpos) X.env = pure none := by rfl)
    (h1 : (assignEach [tg] X.env).map (·.2) = [assign tg X.env] := by rfl) :
    PSs X (.Assign [tg] (.Call (.Attribute o name apos) [.Constant (.str c) j cp] [] cpos) pos :: rest) (tSeq (tAsg (tBM X.K T r to (tCons (tC (.str c)) tNil)) g) u) := by
  refine ⟨fun pins s σ H D I h => ?_⟩
  have key : wpAny (model X.prog X.w) X.A (exec (.Assign [tg] (.Call (.Attribute o name apos) [.Constant (.str c) j cp] [] cpos) pos) X.env) (fun f s1 => 1 ≤ s1.toks ∧ SP X pins { D with nx := u D } f s1) X.xe s := by
    refine wpAny_Assign_stores ?_ hs hw
    rw [h1]
    refine wpAny_Call_method_late hbase hfew hline rfl (thn (ho.run pins s σ H _ I h) fun v s1 ⟨x, H1, I1, r1, ty, q1⟩ => ?_)
    obtain ⟨m1, m2⟩ := tyV_is I1 r1 ty
    refine ⟨T, id, pa, slot, hty, m1, m2, ?_⟩
    rw [hst]
    refine Calls.callWith_builtin rfl (Calls.evalArgs_plain (Calls.spliced_cons (Calls.Constant_str (k := j) (pos := cp) (Calls.spliced_nil ?_))))
    refine wpAny_mono (PySem.wpAny_toks (hm pins { s1 with toks := s1.toks + 1 } σ H1 x [.str c] v [Value.str c s1.toks] _ (I1.tok _) r1 (.cons ⟨_, rfl⟩ .nil) q1)) (fun v2 s2 q => ?_) fun _ _ z => z.2
    obtain ⟨hk, y, H2, I2, r2, q2⟩ := q
    have hk' : s1.toks + 1 ≤ s2.toks := hk
    refine wpAny_mono (PySem.wpAny_toks (hg.run pins s2 σ H2 y v2 _ I2 r2 q2)) (fun _ s3 q => ?_) fun _ _ z => z.2
    obtain ⟨hk3, q3⟩ := q
    exact ⟨by omega, q3⟩
  refine wpAny_execs_cons (wpAny_mono key (fun f s1 q => ?_) fun _ _ x => x)
  obtain ⟨hk, q⟩ := q
  cases f with
  | next =>
    obtain ⟨σ', H', I', q⟩ := q
    exact hr pins s1 σ' H' D hk I' q
  | ret v => exact q
  | brk => exact q
  | cont => exact q
/-- a method of a value that wants a token -/
theorem pet_bm (pa : PlainAttrs T) (slot : Slot T name id) (hty : typeOf (.builtin id) = pure (.type "method_descriptor")) (hm : MtR X id r) (ho : PET X o to) (ha : PA X (e :: es) t)
    (hbase : attributeBase o name X.env (eval o X.env) = eval o X.env := by rfl)
    (hfew : ((backTo cpos (starEach (e :: es) X.env)).all (fun x => !x.1) && (backToKw cpos (keywordEach [] X.env)).all (fun x => x.1.isSome)
      && decide ((e :: es).length + ([] : List Keyword).length + (if ([] : List Keyword).isEmpty then 0 else 1) < 30)) = true := by rfl)
    (hline : (apos.endLine == cpos.line) = true := by rfl) (hs : starEach (e :: es) X.env = (false, eval e X.env) :: starEach es X.env := by rfl) (hplain : (backTo cpos (starEach es X.env)).any (·.1) = false := by rfl) :
    PET X (.Call (.Attribute o name apos) (e :: es) [] cpos) (tBM X.K T r to t) := by
  intro pins s σ H Q h0 I h
  refine wpAny_Call_method_late hbase hfew hline rfl (thn (ho pins s σ H _ h0 I h) fun v s1 ⟨x, H1, I1, r1, ty, q1⟩ => ?_)
  obtain ⟨h1, h2⟩ := tyV_is I1 r1 ty
  refine ⟨T, id, pa, slot, hty, h1, h2, ?_⟩
  have hA := ha.run cpos pins s1 σ H1 _ I1 q1
  rw [hs] at hA ⊢
  refine Calls.callWith_builtin (by show (false || (backTo cpos (starEach es X.env)).any (·.1)) = false; rw [hplain] <;> rfl) (Calls.evalArgs_plain ?_)
  exact thn hA fun us s2 ⟨vs, H2, I2, r2, q2⟩ => hm pins s2 σ H2 x vs v us Q I2 r1 r2 q2
theorem pet_tup {x1} (h : PAT X es t) : PET X (.Tuple es x1 pos) (tTup t) := by
  intro pins s σ H Q h0 I hq
  refine wpAny_Tuple_spliced (thn (h pos pins s σ H _ h0 I hq) fun us s1 ⟨xs, H1, I1, r, z, q⟩ => ⟨by rw [← r.length]; exact z, ?_⟩)
  have hf : H1 s1.heap.objs.size = none := I1.hok.fresh (Nat.le_refl _)
  refine ⟨.ref s1.heap.objs.size, upd H1 s1.heap.objs.size (.tup xs), I1.laid (t' := s1.toks) (fun b u e => Heap.get?_push_of_some _ e) (Nat.le_refl _) ?_, rfl, q _ hf⟩
  exact ⟨z, us, r, ⟨_, Heap.get?_push_size _ rfl, rfl, _, rfl⟩⟩
theorem pst_set {i : Nat} {x : Str} {pos' : Pos} (hN : X.N.Nodup) (hi : X.N[i]? = some x) (hx : Loc X.env.scope x) (he : PET X e te) (hs : swapsWith e (some (.Name x pos')) pos.line X.env = pure false := by rfl) (hf : X.fn x = true ∨ X.env.scope.names.lookup x = some .local := by first | exact .inl rfl | exact .inr rfl | assumption) :
    PST X (.Assign [.Name x pos'] e pos) (tAsg te (gName i)) := by
  intro pins s σ H D h0 I h
  refine wpAny_Assign_Name (thn (he pins s σ H _ h0 I h) fun v s1 ⟨y, H1, I1, r1, q1⟩ => ?_) hs
  exact store_ok I1 hN hi hx r1 (fun s2 I2 => ⟨_, H1, I2, q1⟩) hf
end
section
variable {X : Cx} {e e2 : Expr} {te t2 : TE} {pos : Pos}
def PTT (X : Cx) (e : Expr) (t : TT) : Prop :=
  ∀ (pins : List (Addr × Obj)) (s : Shared) (σ : L2.St) (H : Hp) (Q : Bool → Hp → Prop), 1 ≤ s.toks → Inv X pins σ H s → t σ H Q → ∀ whole, wpAny (model X.prog X.w) X.A (isTrue e X.env whole) (fun b s' => ∃ H', Inv X pins σ H' s' ∧ Q b H') X.xe s
theorem ptt_cmpR {op : CmpOp} {r : R2} (ho : OpR X (compareOp op) r) (ha : PET X e te) (hb : PE X e2 t2) (hm : behindInMarks op e2 = false) : PTT X (.Compare e [op] [e2] pos) (tTest (tOp r te t2)) := by
  intro pins s σ H Q h0 I h whole
  refine wpAny_isTrue_Compare1 (thn (ha pins s σ H _ h0 I h) fun v s1 ⟨x, H1, I1, r1, q1⟩ => thn (hb.run pins s1 σ H1 _ I1 q1) fun u s2 ⟨y, H2, I2, r2, q2⟩ =>
    thn (ho pins s2 σ H2 x y v u _ I2 r1 r2 q2) fun c s3 ⟨z, H3, I3, r3, k, e, q3⟩ => ?_) hm
  subst e
  cases r3
  exact wpAny_truthy_bool ⟨H3, I3, q3⟩
theorem pst_ifT {a b : List Stmt} {tc : TT} {t' u' : TS} (hc : PTT X e tc) (ha : PSs X a t') (hb : PSs X b u') : PST X (.If e a b pos) (tIfS tc t' u') := by
  intro pins s σ H D h0 I h
  refine wpAny_If (thn (hc pins s σ H _ h0 I h _) fun d s1 ⟨H1, I1, q1⟩ => ?_)
  cases d with
  | true => exact ha.run pins s1 σ H1 D I1 q1
  | false => exact hb.run pins s1 σ H1 D I1 q1
end
/-! ### words as texts -/
def cutA (c : Nat) (z : List Nat) : List Nat := z.takeWhile (· != c)
def cutB (c : Nat) (z : List Nat) : List Nat := (z.dropWhile (· != c)).drop 1
theorem cut_app {c : Nat} : ∀ {a : List Nat} (b : List Nat), c ∉ a → cutA c (a ++ c :: b) = a ∧ cutB c (a ++ c :: b) = b
  | [], b, _ => by unfold cutA cutB; simp
  | x :: a, b, h => by
    have n : x ≠ c := fun e => h (by rw [e]; exact List.mem_cons_self ..)
    have ih := cut_app (a := a) b fun m => h (List.mem_cons_of_mem _ m)
    have nb : (x != c) = true := by simpa using n
    unfold cutA cutB at ih ⊢
    rw [List.cons_append, List.takeWhile_cons, List.dropWhile_cons, if_pos nb, if_pos nb, ih.1]
    exact ⟨rfl, ih.2⟩
theorem cut_none {c : Nat} : ∀ {a : List Nat}, c ∉ a → cutA c a = a ∧ cutB c a = []
  | [], _ => ⟨rfl, rfl⟩
  | x :: a, h => by
    have n : x ≠ c := fun e => h (by rw [e]; exact List.mem_cons_self ..)
    have ih := cut_none (a := a) fun m => h (List.mem_cons_of_mem _ m)
    have nb : (x != c) = true := by simpa using n
    unfold cutA cutB at ih ⊢
    rw [List.takeWhile_cons, List.dropWhile_cons, if_pos nb, if_pos nb, ih.1]
    exact ⟨rfl, ih.2⟩
theorem cut_len (c : Nat) (z : List Nat) : (cutA c z).length ≤ z.length ∧ (cutB c z).length ≤ z.length := by
  unfold cutA cutB
  have h1 : (z.takeWhile (· != c)).length ≤ z.length := (List.takeWhile_sublist _).length_le
  have h2 : (z.dropWhile (· != c)).length ≤ z.length := (List.dropWhile_sublist _).length_le
  exact ⟨h1, by rw [List.length_drop]; omega⟩
theorem split_at {c : Nat} : ∀ {z : List Nat}, c ∈ z → ∃ a b, z = a ++ c :: b ∧ c ∉ a
  | x :: z, h => by
    by_cases e : x = c
    · exact ⟨[], z, by rw [e]; rfl, fun h => nomatch h⟩
    · have h' : c ∈ z := (List.mem_cons.mp h).resolve_left fun q => e q.symm
      obtain ⟨a, b, rfl, na⟩ := split_at h'
      exact ⟨x :: a, b, rfl, fun m => (List.mem_cons.mp m).elim (fun q => e q.symm) na⟩
theorem part_S (c : Nat) (z : List Nat) : ∃ m, Txt.partition (SX.S z) (SX.S [c]) = (SX.S (cutA c z), SX.S m, SX.S (cutB c z)) := by
  by_cases h : c ∈ z
  · obtain ⟨a, b, rfl, na⟩ := split_at h
    obtain ⟨e1, e2⟩ := cut_app b na
    rw [e1, e2]
    exact ⟨[c], SX.partition_some (List.cons_ne_nil _ _) (TL.par_part1 (S := []) (rest := b) (acc := []) na)⟩
  · obtain ⟨e1, e2⟩ := cut_none h
    rw [e1, e2]
    exact ⟨[], SX.partition_none (List.cons_ne_nil _ _) (TL.par_none1 (S := []) (acc := []) h)⟩
/-- rights as they are written -/
def rtL (p : Nat → Bool) : List Nat := if (rtx p).cps.toList = [] then [45] else (rtx p).cps.toList
def wtx (lo hi at' : Int) (p : Nat → Bool) (kd : Int) : List Nat := numI lo ++ 45 :: (numI hi ++ 64 :: (numI at' ++ 58 :: (rtL p ++ 47 :: numI kd)))
def stk (z : List Nat) : List Nat := z.filter (· != 45)
theorem numI_nn {i : Int} (h : 0 ≤ i) {c : Nat} (m : c ∈ numI i) : 48 ≤ c ∧ c ≤ 57 := by
  unfold numI at m
  rw [if_neg (by omega)] at m
  exact TL.numL_digits _ _ m
theorem rtL_codes {p : Nat → Bool} {c : Nat} (m : c ∈ rtL p) : c = 45 ∨ (97 ≤ c ∧ c ≤ 122) := by
  unfold rtL at m
  split at m
  · exact .inl (List.mem_singleton.mp m)
  · obtain ⟨k, hk, rfl⟩ := rtx_codes_mem m
    exact .inr (code_big k hk)
theorem stk_rtL (p : Nat → Bool) : stk (rtL p) = (rtx p).cps.toList := by
  unfold rtL
  split
  · rename_i h
    rw [h]; rfl
  · refine List.filter_eq_self.mpr fun c m => ?_
    obtain ⟨k, hk, rfl⟩ := rtx_codes_mem m
    have := code_big k hk
    simp; omega
theorem rtL_ne (p : Nat → Bool) : rtL p ≠ [] := by
  unfold rtL
  split
  · exact List.cons_ne_nil _ _
  · assumption
/-- the parts of a marked word's text -/
def pLo (z : List Nat) : List Nat := cutA 45 (cutA 64 z)
def pHi (z : List Nat) : List Nat := cutB 45 (cutA 64 z)
def pAt (z : List Nat) : List Nat := cutA 58 (cutB 64 z)
def pRt (z : List Nat) : List Nat := cutA 47 (cutB 58 (cutB 64 z))
def pKd (z : List Nat) : List Nat := cutB 47 (cutB 58 (cutB 64 z))
theorem wtx_parts {lo hi at' : Int} {p : Nat → Bool} {kd : Int} (h1 : 0 ≤ lo) (h2 : 0 ≤ hi) (h3 : 0 ≤ at') : pLo (wtx lo hi at' p kd) = numI lo ∧ pHi (wtx lo hi at' p kd) = numI hi ∧ pAt (wtx lo hi at' p kd) = numI at' ∧ pRt (wtx lo hi at' p kd) = rtL p ∧ pKd (wtx lo hi at' p kd) = numI kd := by
  have e0 : wtx lo hi at' p kd = (numI lo ++ 45 :: numI hi) ++ 64 :: (numI at' ++ 58 :: (rtL p ++ 47 :: numI kd)) := by
    unfold wtx; rw [List.append_assoc]; rfl
  have a1 := cut_app (c := 64) (a := numI lo ++ 45 :: numI hi) (numI at' ++ 58 :: (rtL p ++ 47 :: numI kd)) fun m => by
    rcases List.mem_append.mp m with m | m
    · have := numI_nn h1 m; omega
    · rcases List.mem_cons.mp m with m | m
      · omega
      · have := numI_nn h2 m; omega
  have a2 := cut_app (c := 45) (a := numI lo) (numI hi) fun m => by have := numI_nn h1 m; omega
  have a3 := cut_app (c := 58) (a := numI at') (rtL p ++ 47 :: numI kd) fun m => by have := numI_nn h3 m; omega
  have a4 := cut_app (c := 47) (a := rtL p) (numI kd) fun m => by have := rtL_codes m; omega
  unfold pLo pHi pAt pRt pKd
  rw [e0, a1.1, a1.2, a2.1, a2.2, a3.1, a3.2, a4.1, a4.2]
  exact ⟨rfl, rfl, rfl, rfl, rfl⟩
theorem wtx_at (lo hi at' : Int) (p : Nat → Bool) (kd : Int) : 64 ∈ wtx lo hi at' p kd := by
  unfold wtx
  exact List.mem_append_right _ (List.mem_cons_of_mem _ (List.mem_append_right _ (List.mem_cons_self ..)))
/-- the text of a marked word -/
def MT (z : List Nat) (b : Int) : Prop := ∃ lo hi at' p kd s, WF b lo hi at' p kd s ∧ z = wtx lo hi at' p kd
/-- what a whole number's text reads as -/
def vW (z : List Nat) : V := if wholeOk z = true then .int (wholeV z) else .non
theorem vW_num {i : Int} (h : i.natAbs < 10 ^ 29) : vW (numI i) = .int i := by
  have := whole_num h
  unfold wholeIn at this
  unfold vW
  split at this
  · rename_i c; rw [if_pos c]; injection this with e; rw [e]
  · cases this
theorem dx_vW {H : Hp} {v : V} {z : List Nat} (h : Dx H v (wholeIn z)) : v = vW z := by
  unfold wholeIn at h
  unfold vW
  split at h
  · rename_i c; rw [if_pos c]; exact h.int_of
  · rename_i c; rw [if_neg c]; cases h; rfl
theorem kd_vW {H : Hp} (z : List Nat) : Kd H (vW z) := by
  unfold vW
  split
  · exact .int _
  · exact .non
def vs5 (z : List Nat) : List V := [vW (pLo z), vW (pHi z), vW (pAt z), .str (SX.S (stk (pRt z))), vW (pKd z)]
theorem WF.rng {b lo hi at' kd : Int} {p : Nat → Bool} {s : Nat} (W : WF b lo hi at' p kd s) : 0 ≤ lo ∧ lo ≤ 4096 ∧ 0 ≤ hi ∧ hi ≤ 4096 ∧ 0 ≤ at' ∧ at' ≤ 4095 ∧ 0 ≤ kd ∧ kd ≤ 15 := by
  obtain ⟨h1, h2, h3⟩ := W.bd
  have := W.a0
  have := W.a1
  have := W.k0
  have := W.k1
  omega
theorem n29 {i : Int} (h0 : 0 ≤ i) (h1 : i ≤ 35184372088832) : i.natAbs < 10 ^ 29 := by omega
theorem wtx_vs {b lo hi at' kd : Int} {p : Nat → Bool} {s : Nat} (W : WF b lo hi at' p kd s) : vs5 (wtx lo hi at' p kd) = [.int lo, .int hi, .int at', .str (rtx p), .int kd] := by
  obtain ⟨r1, r2, r3, r4, r5, r6, r7, r8⟩ := W.rng
  obtain ⟨e1, e2, e3, e4, e5⟩ := wtx_parts (p := p) (kd := kd) r1 r3 r5
  unfold vs5
  rw [e1, e2, e3, e4, e5, stk_rtL, S_back, vW_num (n29 r1 (by omega)), vW_num (n29 r3 (by omega)), vW_num (n29 r5 (by omega)), vW_num (n29 r7 (by omega))]
theorem MT.one {z : List Nat} {b c : Int} (h : MT z b) (k : MT z c) : b = c := by
  obtain ⟨lo, hi, at', p, kd, s, W, rfl⟩ := h
  obtain ⟨lo', hi', a', p', kd', s', W', e⟩ := k
  have e2 := wtx_vs W
  rw [e, wtx_vs W'] at e2
  injection e2 with g1 e2
  injection e2 with g2 e2
  injection e2 with g3 e2
  injection e2 with g4 e2
  injection e2 with g5 e2
  have g1 := V.int.inj g1
  have g2 := V.int.inj g2
  have g3 := V.int.inj g3
  have g4 := V.str.inj g4
  have g5 := V.int.inj g5
  subst g1 g2 g3 g5
  have es : s' = s := W'.ex.1.uniq W.ex.1
  subst es
  have a := W.wb
  have a' := W'.wb
  rw [g4] at a'
  exact a.symm.trans a'
theorem MT.text {z y : List Nat} {b : Int} (h : MT z b) (k : MT y b) : z = y := by
  obtain ⟨lo, hi, at', p, kd, s, W, rfl⟩ := h
  obtain ⟨lo', hi', a', p', kd', s', W', rfl⟩ := k
  obtain ⟨g1, g2, g3, g4, g5, g6⟩ := W.uniq W'
  subst g1 g2 g3 g5
  unfold wtx rtL
  rw [g4]
/-- a word and its text -/
def WT (z : List Nat) (m : Bool) (b : Int) : Prop := (m = true ∧ MT z b) ∨ (m = false ∧ W45 b ∧ z = numI b)
/-- what a text reads as -/
def RT2 (z : List Nat) (m : Bool) (b : Int) : Prop := (64 ∈ z ∧ m = true ∧ MT z b) ∨ (64 ∉ z ∧ m = false ∧ W45 b ∧ wholeIn z = .int b)
theorem MT.at {z : List Nat} {b : Int} (h : MT z b) : 64 ∈ z := by
  obtain ⟨lo, hi, at', p, kd, s, W, rfl⟩ := h
  exact wtx_at ..
theorem WT.rt {z : List Nat} {m : Bool} {b : Int} (h : WT z m b) : RT2 z m b := by
  rcases h with ⟨e, h⟩ | ⟨e, w, rfl⟩
  · exact .inl ⟨h.at, e, h⟩
  · refine .inr ⟨fun m => ?_, e, w, whole_num (n29 w.1 (by have := w.2; omega))⟩
    have := numI_nn w.1 m; omega
theorem RT2.one {z : List Nat} {m n : Bool} {b c : Int} (h : RT2 z m b) (k : RT2 z n c) : m = n ∧ b = c := by
  rcases h with ⟨a, e, h⟩ | ⟨a, e, w, h⟩ <;> rcases k with ⟨a', e', k⟩ | ⟨a', e', w', k⟩
  · exact ⟨e.trans e'.symm, h.one k⟩
  · exact absurd a a'
  · exact absurd a' a
  · rw [h] at k; injection k with k; exact ⟨e.trans e'.symm, k⟩
theorem WT.text {z y : List Nat} {m : Bool} {b : Int} (h : WT z m b) (k : WT y m b) : z = y := by
  rcases h with ⟨e, h⟩ | ⟨e, w, h⟩ <;> rcases k with ⟨e', k⟩ | ⟨e', w', k⟩
  · exact h.text k
  · rw [e] at e'; cases e'
  · rw [e] at e'; cases e'
  · rw [h, k]
theorem MT.len {z : List Nat} {b : Int} (h : MT z b) : z.length ≤ 40 := by
  obtain ⟨lo, hi, at', p, kd, s, W, rfl⟩ := h
  obtain ⟨r1, r2, r3, r4, r5, r6, r7, r8⟩ := W.rng
  have l1 := numI_len (i := lo) (k := 4) (by decide) (by omega)
  have l2 := numI_len (i := hi) (k := 4) (by decide) (by omega)
  have l3 := numI_len (i := at') (k := 4) (by decide) (by omega)
  have l4 := numI_len (i := kd) (k := 2) (by decide) (by omega)
  have l5 : (rtL p).length ≤ 9 := by
    unfold rtL
    split
    · decide
    · have := rtx_len p
      simpa using this
  unfold wtx
  simp only [List.length_append, List.length_cons]
  omega
theorem WT.len {z : List Nat} {m : Bool} {b : Int} (h : WT z m b) : z.length ≤ 40 := by
  rcases h with ⟨_, h⟩ | ⟨_, w, rfl⟩
  · exact h.len
  · have := numI_len (i := b) (k := 14) (by decide) (by have := w.1; have := w.2; omega)
    omega
theorem MT.law {z : List Nat} {b : Int} (h : MT z b) : W45 b ∧ Law b := by
  obtain ⟨lo, hi, at', p, kd, s, W, rfl⟩ := h
  exact ⟨W.all.1, W.all.2.1⟩
theorem strike_S (z : List Nat) : Txt.replace (SX.S z) (SX.S [45]) (SX.S []) = SX.S (stk z) := by
  refine TL.ext_tl ?_
  exact replace_strikes (SX.S z) 45
/-! ### parts of an f-string -/
section
variable {te : TE} {ts : List TE} {a y : List Nat} {σ : L2.St} {H : Hp} {Q : Str → Hp → Prop}
theorem fits200 {z : List Nat} (h : z.length ≤ 200) : (SX.S z).length ≤ sizeLine := by rw [SX.S_len, sizeLine_eq]; omega
theorem js_str (h : ∀ R : VK, R (.str (SX.S y)) H → te σ H R) (l : (a ++ y).length ≤ 200) (k : tJs ts (SX.S (a ++ y)) σ H Q) : tJs (te :: ts) (SX.S a) σ H Q :=
  h _ ⟨_, rfl, by rw [SX.S_cat]; exact fits200 l, by rw [SX.S_cat]; exact k⟩
theorem js_fstr (h : ∀ R : VK, R (.str (SX.S y)) H → te σ H R) (l : (a ++ y).length ≤ 200) (k : tJs ts (SX.S (a ++ y)) σ H Q) : tJs (tFmt te :: ts) (SX.S a) σ H Q :=
  h _ (.inl ⟨_, rfl, fits200 (by simp only [List.length_append] at l; omega), _, rfl, by rw [SX.S_cat]; exact fits200 l, by rw [SX.S_cat]; exact k⟩)
theorem js_int {i : Int} (h : ∀ R : VK, R (.int i) H → te σ H R) (h0 : 0 ≤ i) (h1 : i ≤ 35184372088832) (l : (a ++ numI i).length ≤ 200) (k : tJs ts (SX.S (a ++ numI i)) σ H Q) : tJs (tFmt te :: ts) (SX.S a) σ H Q :=
  h _ (.inr ⟨i, rfl, log_small (by omega), _, rfl, by rw [num_text, SX.S_cat]; exact fits200 l, by rw [num_text, SX.S_cat]; exact k⟩)
end
theorem sgn_S (c : Nat) (s : String) (h : Str.ofString s = SX.S [c] := by decide +kernel) : Str.ofString s = SX.S [c] := h
theorem rt_or {K : PySem.W.Frag} {H : Hp} {σ : L2.St} {R : VK} {p : Nat → Bool} (r : R (.str (SX.S (rtL p))) H) : ∃ k, TruV K (.str (rtx p)) H k ∧ if k = true then R (.str (rtx p)) H else tC (.str (Str.ofString "-")) σ H R := by
  have l := rtx_len p
  refine ⟨((rtx p).length : Int) != 0, ⟨by rw [sizeLine_eq]; show (rtx p).cps.size ≤ _; omega, rfl⟩, ?_⟩
  have ll : (rtx p).length = (rtx p).cps.toList.length := by show (rtx p).cps.size = _; simp
  by_cases e : (rtx p).cps.toList = []
  · rw [ll, e]
    have : rtL p = [45] := by unfold rtL; rw [if_pos e]
    rw [this] at r
    exact (minus_S ▸ r : tC (.str (Str.ofString "-")) σ H R)
  · have n : (((rtx p).length : Int) != 0) = true := by
      rw [ll]
      cases h : (rtx p).cps.toList with
      | nil => exact absurd h e
      | cons a r => simp; omega
    have : rtL p = (rtx p).cps.toList := by unfold rtL; rw [if_neg e]
    rw [this, S_back] at r
    rw [n]
    exact r
/-- x.partition(sign), by codes -/
theorem mt_partS {X : Cx} : MtR X "str.partition" (fun x xs H Q => ∃ (c : Nat) (z : List Nat), x = .str (SX.S z) ∧ xs = [.str (SX.S [c])] ∧ z.length ≤ 1000000 ∧
    ∀ p m, H p = none → Q (.ref p) (upd H p (.tup [.str (SX.S (cutA c z)), .str m, .str (SX.S (cutB c z))]))) := by
  intro pins s σ H x xs v us Q I rx rs h
  obtain ⟨c, z, e1, e2, hz, q⟩ := h
  obtain ⟨m, e⟩ := part_S c z
  refine mt_partition pins s σ H x xs v us Q I rx rs ⟨_, _, e1, e2, rfl, by rw [SX.S_len, sizeLine_eq]; omega, fun p n => ?_⟩
  rw [e]
  exact q p (SX.S m) n
theorem sgnV (c : Nat) (s : String) (h : Str.ofString s = SX.S [c] := by decide +kernel) : [V.str (Str.ofString s)] = [V.str (SX.S [c])] := by rw [h]
theorem MT.vs {z : List Nat} {b c lo hi at' kd : Int} {p : Nat → Bool} {s : Nat} (h : MT z c) (e : vs5 z = [.int lo, .int hi, .int at', .str (rtx p), .int kd]) (W : WF b lo hi at' p kd s) : c = b := by
  have k : MT (wtx lo hi at' p kd) b := ⟨lo, hi, at', p, kd, s, W, rfl⟩
  obtain ⟨lo', hi', a', p', kd', s', W', rfl⟩ := h
  rw [wtx_vs W'] at e
  injection e with g1 e2
  injection e2 with g2 e2
  injection e2 with g3 e2
  injection e2 with g4 e2
  injection e2 with g5 e2
  have g1 := V.int.inj g1
  have g2 := V.int.inj g2
  have g3 := V.int.inj g3
  have g4 := V.str.inj g4
  have g5 := V.int.inj g5
  subst g1 g2 g3 g5
  have es : s' = s := W'.ex.1.uniq W.ex.1
  subst es
  have a' := W'.wb
  rw [g4] at a'
  exact a'.symm.trans W.wb
theorem MT.f5 {z : List Nat} {b : Int} (h : MT z b) : F5 (vs5 z) := by
  obtain ⟨lo, hi, at', p, kd, s, W, rfl⟩ := h
  rw [wtx_vs W]
  exact W.f5
theorem none_back {H H' : Hp} {q : Addr} (s : Same H H') (n : H' q = none) : H q = none := by
  cases e : H q with
  | none => rfl
  | some o => rw [s _ _ e] at n; cases n
theorem lnil {P : V → Prop} : ∀ x ∈ ([] : List V), P x := fun _ h => nomatch h
theorem lcons {P : V → Prop} {v : V} {xs : List V} (h : P v) (t : ∀ x ∈ xs, P x) : ∀ x ∈ v :: xs, P x := fun x hx => by
  rcases List.mem_cons.mp hx with z | z
  · rw [z]; exact h
  · exact t x z
theorem vW_int {z : List Nat} {n : Int} : vW z = .int n ↔ wholeIn z = .int n := by
  unfold vW wholeIn
  constructor
  · intro h
    split at h
    · rename_i c; rw [if_pos c, V.int.inj h]
    · cases h
  · intro h
    split at h
    · rename_i c; rw [if_pos c]; injection h with h; rw [h]
    · cases h
/-! ### words as data -/
def wD (m : Bool) (b : Int) : PyData := .tuple [.bool m, .int b]
theorem wD_dp {K : PySem.W.Frag} {H : Hp} {p : Addr} {m : Bool} {b : Int} (h : H p = some (.tup [.bl m, .int b])) : Dp K H (.ref p) (wD m b) := .tup (.of h) (.cons (.bl m) (.cons (.int b) .nil))
theorem wD_sh (m : Bool) (b : Int) : SeqAt.shaped (wD m b) = true := by
  unfold SeqAt.shaped wD
  simp [PyData.depth, PyData.depthAll, PyData.canLay0, PyData.canLayAll0]
theorem wD_eqv (m n : Bool) (b c : Int) : PyData.eqv (wD m b) (wD n c) = decide (m = n ∧ b = c) := by
  unfold wD
  rw [Bool.eq_iff_iff]
  cases m <;> cases n <;> simp [PyData.eqv, PyData.eqvAll]
theorem w2_dp {K : PySem.W.Frag} {H : Hp} {L p q : Addr} {m n : Bool} {b c : Int} (e : H L = some (.lst [.ref p, .ref q])) (h : H p = some (.tup [.bl m, .int b])) (k : H q = some (.tup [.bl n, .int c])) : Dp K H (.ref L) (.list [wD m b, wD n c]) :=
  .lst (.of e) (.cons (wD_dp h) (.cons (wD_dp k) .nil))
theorem w2_sh (m n : Bool) (b c : Int) : SeqAt.shaped (.list [wD m b, wD n c]) = true := by
  unfold SeqAt.shaped wD
  simp [PyData.depth, PyData.depthAll, PyData.canLay0, PyData.canLayAll0]
theorem w2_refl (m n : Bool) (b c : Int) : PyData.eqv (.list [wD m b, wD n c]) (.list [wD m b, wD n c]) = true := by
  unfold wD
  simp [PyData.eqv, PyData.eqvAll]
theorem WT.eq_iff {z y : List Nat} {m n : Bool} {b c : Int} (h : WT z m b) (k : WT y n c) : z = y ↔ (m = n ∧ b = c) := by
  constructor
  · intro e
    subst e
    exact h.rt.one k.rt
  · rintro ⟨rfl, rfl⟩
    exact h.text k
theorem same_pool {H H1 H2 : Hp} {p : Addr} (s : Same H H1) (n : H p = none) (b : But p H1 H2) : Same H H2 := fun q o e => b q o (ne_of_none e n) (s q o e)
theorem rb_len {z : List Nat} {m : Bool} {b : Int} (t : WT z m b) : ∀ s, PyData.str (SX.S z) = .str s → s.cps.toList.length ≤ 1000000 := fun s e => by
  cases e; show z.length ≤ _; have := t.len; omega
theorem rb_fix {z : List Nat} {m m' : Bool} {b b' : Int} {s : Str} {q : Addr} {H' : Hp} (t : WT z m b) (e : PyData.str (SX.S z) = .str s) (h : RT2 s.cps.toList m' b') (h1 : H' q = some (.tup [.bl m', .int b'])) : H' q = some (.tup [.bl m, .int b]) := by
  cases e
  obtain ⟨e1, e2⟩ := RT2.one h t.rt
  rw [e1, e2] at h1
  exact h1
theorem rb_no {z : List Nat} {m : Bool} {b : Int} {A : Prop} (t : WT z m b) (no : ∀ s m b, PyData.str (SX.S z) = .str s → ¬ RT2 s.cps.toList m b) : A := absurd t.rt (no _ m b rfl)
/-! ### the parts of a word's text, split -/
theorem spl2 {c : Nat} {a b : List Nat} (na : c ∉ a) (nb : c ∉ b) : TL.spl [c] 0 [] (a ++ c :: b) = [a, b] := by
  have := TL.spl_join (s := c) (S := []) (parts := [a, b]) (List.cons_ne_nil _ _) fun p hp m => by
    rcases List.mem_cons.mp hp with e | e
    · exact na (e ▸ m)
    · rcases List.mem_cons.mp e with e | e
      · exact nb (e ▸ m)
      · exact nomatch e
  exact this
theorem spl3 {c : Nat} {a b d : List Nat} (na : c ∉ a) (nb : c ∉ b) (nd : c ∉ d) : TL.spl [c] 0 [] (a ++ c :: (b ++ c :: d)) = [a, b, d] := by
  have := TL.spl_join (s := c) (S := []) (parts := [a, b, d]) (List.cons_ne_nil _ _) fun p hp m => by
    rcases List.mem_cons.mp hp with e | e
    · exact na (e ▸ m)
    · rcases List.mem_cons.mp e with e | e
      · exact nb (e ▸ m)
      · rcases List.mem_cons.mp e with e | e
        · exact nd (e ▸ m)
        · exact nomatch e
  exact this
theorem repl2 {c d : Nat} {a b : List Nat} (hc : c < 256) (na : c ∉ a) (nb : c ∉ b) : Txt.replace (SX.S (a ++ c :: b)) (SX.S [c]) (SX.S [d]) = SX.S (a ++ d :: b) := by
  have e : Txt.replace (SX.S (a ++ c :: b)) (SX.S [c]) (SX.S [d]) = Txt.join (SX.S [d]) (Txt.split (SX.S (a ++ c :: b)) (SX.S [c])) := (StrLaws.replace_one _ _ c).trans (TL.join_eq _ _).symm
  rw [e, split_one c hc, spl2 na nb, SX.join_S]
  rfl
theorem numI_not {i : Int} (h : 0 ≤ i) {c : Nat} (k : c < 48 ∨ 57 < c) : c ∉ numI i := fun m => by have := numI_nn h m; omega
theorem rtL_not {p : Nat → Bool} {c : Nat} (k : c < 97 ∨ 122 < c) (k2 : c ≠ 45) : c ∉ rtL p := fun m => by have := rtL_codes m; omega
theorem ok_S {z : List Nat} (h : ∀ c ∈ z, c < 128) : PyData.strOk (SX.S z) = true := by
  unfold PyData.strOk
  rw [← Array.all_toList, List.all_eq_true]
  intro c hc
  have := h c hc
  simp; omega
theorem numI_ok {i : Int} (h : 0 ≤ i) : PyData.strOk (SX.S (numI i)) = true := ok_S fun c m => by have := numI_nn h m; omega
theorem rtL_ok (p : Nat → Bool) : PyData.strOk (SX.S (rtL p)) = true := ok_S fun c m => by have := rtL_codes m; omega
theorem int_num {b : Int} (w : W45 b) : intText? (SX.S (numI b)) = some b ∧ (SX.S (numI b)).length ≤ 640 := by
  have e := whole_num (n29 w.1 (by have := w.2; omega))
  unfold wholeIn at e
  split at e
  · rename_i c
    injection e with e
    have := whole_int c
    rw [e] at this
    exact ⟨this, by rw [SX.S_len]; have := whole_len c; omega⟩
  · cases e
/-! ### text[::-1] -/
def tRevS (te : TE) : TE := fun σ H Q => te σ H fun x H1 => ∃ z, x = .str z ∧ z.length ≤ sizeLine ∧ ∀ r : Str, r.length ≤ z.length → (∀ c ∈ r.cps.toList, c ∈ z.cps.toList) → Q (.str r) H1
theorem pe_revS {X : Cx} {te : TE} {e : Expr} {k : Nat} {p1 p2 p3 pos : Pos} (he : PE X e te) : PE X (.Subscript e (.Slice none none (some (.UnaryOp .USub (.Constant (.int 1) k p1) p2)) p3) pos) (tRevS te) := by
  refine ⟨fun pins s σ H Q I h => ?_⟩
  refine Subscript_ (thn (he.run pins s σ H _ I h) fun v s1 ⟨x, H1, I1, r1, q1⟩ => ?_)
  obtain ⟨z, ex, hz, q⟩ := q1
  subst ex
  obtain ⟨t, rfl⟩ := r1
  have hst : PO X (some (.UnaryOp .USub (.Constant (.int 1) k p1) p2)) (tPart (tUn (rU fun i => .int (-i)) (tC (.int 1)))) := po_some (pe_un un_neg pe_int)
  refine wpAny_Slice (thn (po_none.run pins s1 σ H1 (fun o H2 => o = none ∧ H2 = H1) I1 ⟨rfl, rfl⟩) fun vl s2 ⟨l, H2, I2, pl, el, e2⟩ => ?_)
  subst el e2
  refine thn (po_none.run pins s2 σ H2 (fun o H3 => o = none ∧ H3 = H2) I2 ⟨rfl, rfl⟩) fun vu s3 ⟨u, H3, I3, pu, eu, e3⟩ => ?_
  subst eu e3
  refine thn (hst.run pins s3 σ H3 (fun o H4 => o = some (-1) ∧ H4 = H3) I3 ⟨1, rfl, -1, rfl, rfl, rfl⟩) fun vs s4 ⟨o, H4, I4, ps, eo, e4⟩ => ?_
  subst eo e4
  cases pl
  cases pu
  obtain ⟨u5, rfl⟩ : ∃ u5, vs = .int (-1) u5 := by cases ps; exact ⟨_, rfl⟩
  have I5 : Inv X pins σ H4 { s4 with heap := s4.heap.push { cls := .type "slice", data := .fields #[.none, .none, .int (-1) u5] } } := I4.kept (t' := s4.toks) fun b ob q => Heap.get?_push_of_some _ q
  show wpAny (model X.prog X.w) X.A (subscriptTail e (.Slice none none (some (.UnaryOp .USub (.Constant (.int 1) k p1) p2)) p3) (.str z t) (.ref s4.heap.objs.size)) (EP X pins σ Q) X.xe { s4 with heap := s4.heap.push { cls := .type "slice", data := .fields #[.none, .none, .int (-1) u5] } }
  refine tail_any (ops := [.ref s4.heap.objs.size, .str z t]) (typeIs_str _ _ _) (F.slot_str_getitem.lookup) ?_ (by with_unfolding_all rfl)
  refine wpAny_getItem_str_slice (l := none) (u := none) (st := some (-1, u5)) ⟨_, Heap.get?_push_size _ rfl, rfl, rfl⟩ (show ((-1 : Int) == 0) = false by decide) ?_
  have le := Txt.sliceBy_le z none none (-1, u5) (show (-1 : Int) ≠ 0 by decide)
  refine post_val_or_str ⟨Nat.le_trans le hz, fun t' c => ?_⟩
  refine ⟨.str (Txt.sliceBy z none none (-1, u5)), H4, I5.tok c, ⟨t', rfl⟩, q _ le fun d hd => ?_⟩
  unfold Txt.sliceBy at hd
  split at hd
  · exact hd
  · simp only [List.mem_filterMap] at hd
    obtain ⟨i, _, hi⟩ := hd
    have hi2 : z.cps.toList[i]? = some d := by rw [Array.getElem?_toList]; exact hi
    exact List.mem_of_getElem? hi2
/-! ### a text, so many times -/
theorem fold_rep (a : List Nat) : ∀ (n : Nat) (acc : Array Nat), ((List.replicate n a.toArray).foldl (· ++ ·) acc) = (acc.toList ++ (List.replicate n a).flatten).toArray
  | 0, acc => by simp
  | n + 1, acc => by
    rw [List.replicate_succ, List.foldl_cons, fold_rep a n, List.replicate_succ, List.flatten_cons]
    congr 1
    simp
theorem op_mulS {X : Cx} : OpR X (binaryOp .Mult) (fun x y H Q => ∃ (z : List Nat) (k : Int), x = .str (SX.S z) ∧ y = .int k ∧ 0 ≤ k ∧ k ≤ 1000 ∧ z.length ≤ 1000 ∧ Q (.str (SX.S (List.replicate k.toNat z).flatten)) H) := by
  intro pins s σ H x y v u Q I rx ry h
  obtain ⟨z, k, rfl, rfl, h0, h1, hz, q⟩ := h
  obtain ⟨t, rfl⟩ := rx
  obtain ⟨t', rfl⟩ := ry
  have hl : (SX.S z).length = z.length := SX.S_len z
  have len : (SX.S z).length * k.toNat ≤ 1000 * 1000 := Nat.mul_le_mul (by omega) (by omega)
  have eq : (⟨(List.replicate k.toNat (SX.S z).cps).foldl (· ++ ·) #[]⟩ : Str) = SX.S (List.replicate k.toNat z).flatten := by
    have := fold_rep z k.toNat #[]
    show (⟨(List.replicate k.toNat z.toArray).foldl (· ++ ·) #[]⟩ : Str) = _
    rw [this]
    rfl
  refine P.mul_str ?_ (fun a b => ?_) (fun a b => ?_) ?_
  · rw [decide_eq_false (by omega), decide_eq_false (by omega)]; rfl
  · have k2 : 1 ≤ k := by omega
    have : (2 ^ 63 - 1 : Int) / k ≥ (2 ^ 63 - 1) / 1000 := by
      refine Int.le_ediv_of_mul_le (by omega) ?_
      have : (2 ^ 63 - 1 : Int) / 1000 * k ≤ (2 ^ 63 - 1) / 1000 * 1000 := Int.mul_le_mul_of_nonneg_left h1 (by decide)
      have c : (2 ^ 63 - 1 : Int) / 1000 * 1000 ≤ 2 ^ 63 - 1 := by decide
      omega
    have c : (2 ^ 63 - 1 : Int) / 1000 ≥ 1000 := by decide
    omega
  · show decide (_ > sizeLine) = false
    refine decide_eq_false ?_
    have : (1000 * 1000 : Nat) ≤ sizeLine := by rw [sizeLine_eq]; decide
    omega
  · by_cases a : k < 1
    · rw [if_pos a]
      have k0 : k = 0 := by omega
      subst k0
      refine ⟨by decide, ⟨.str (SX.S []), H, I.tok _, ⟨_, rfl⟩, ?_⟩⟩
      exact q
    · rw [if_neg a]
      by_cases b : (k == 1 || (SX.S z).length == 0) = true
      · rw [if_pos b]
        have e : (List.replicate k.toNat z).flatten = z := by
          rw [Bool.or_eq_true, beq_iff_eq, beq_iff_eq, hl] at b
          rcases b with b | b
          · rw [b]; show z ++ [] = z; rw [List.append_nil]
          · have : z = [] := List.eq_nil_of_length_eq_zero b
            subst this
            generalize k.toNat = n
            induction n with
            | zero => rfl
            | succ n ih => rw [List.replicate_succ, List.flatten_cons, ih]; rfl
        rw [e] at q
        exact ⟨.str (SX.S z), H, I, ⟨_, rfl⟩, q⟩
      · rw [if_neg b, eq]
        refine ⟨?_, ⟨.str _, H, I.tok _, ⟨_, rfl⟩, q⟩⟩
        rw [SX.S_len, List.length_flatten, List.map_replicate, List.sum_replicate_nat]
        have : (1000 * 1000 : Nat) ≤ sizeLine := by rw [sizeLine_eq]; decide
        rw [hl] at len
        rw [Nat.mul_comm]
        omega
/-! ### as ps_try_keep; its ends know that nothing stands at the error's place -/
/-- what the clause 'except x as n' wishes of an exception of the body, where the error is kept -/
def wKpN (K : PySem.W.Frag) (c : Value) (i : Nat) (ts : Addr → Value → Option Addr → TS) (Wout : WX) (D : Ends) : WX := fun cls d σ H =>
  ∃ b, PySem.W.exmOne K cls c = some b ∧ (b = true → ∀ a, H a = none → ts a cls d { nx := fun σ' H' => H' a = none → D.nx (σ'.set i none) (upd H' a (kept a cls d)), rt := fun v H' => H' a = none → D.rt v (upd H' a (kept a cls d)), bk := fun σ' H' => H' a = none → D.bk (σ'.set i none) (upd H' a (kept a cls d)), ct := fun σ' H' => H' a = none → D.ct (σ'.set i none) (upd H' a (kept a cls d)) } (σ.set i (some (.ref a))) H) ∧
    (b = false → Wout cls d σ H)
section
variable {X : Cx} {x n : Str} {c : Value} {i : Nat} {body suite : List Stmt} {b₀ : Stmt} {np pos pos' : Pos} {tb : WX → TS} {ts : Addr → Value → Option Addr → TS} {Wout : WX}
theorem ps_try_keepN (hs : X.stack = X.env :: X.outer) (hex : X.ex = []) (hf : X.env.frame = some X.env.locals) (hN : X.N.Nodup) (hi : X.N[i]? = some n) (hln : X.env.kindOf n = some .local) (hc : Names X x c) (tk : Takes X Wout)
    (hb : ∀ (W : WX) (pn : List (Addr × Obj)) (xe : Value → Shared → Prop), Takes (X.tr pn xe) W → PassesOwn (model X.prog X.w) X.A X.env xe → PSs (X.tr pn xe) body (tb W))
    (hsu : ∀ (a : Addr) (oe : Obj) (cls : Value) (d : Option Addr) (pn : List (Addr × Obj)), Zc cls d oe → (∃ vs, oe.data = .fields vs) → PSs (X.suite a ((a, oe) :: pn)) (b₀ :: suite) (ts a cls d)) :
    PS X (.Try body [.ExceptHandler (some (.Name x np)) (some n) (b₀ :: suite) pos'] [] [] pos) (fun D σ H => tb (wKpN X.K c i ts Wout D) D σ H) := by
  refine ⟨fun pins s σ H D I h => ?_⟩
  have ok := I.ok
  have hfr : X.A.frames = some (X.env :: X.outer) := by rw [ok.frames, hs]
  have hloc : Loc X.env.scope n := .inl hln
  refine wpAny_Try_except ?_
  refine wpAny_mono ((hb (wKpN X.K c i ts Wout D) (X.pn ++ pins) (fun e s₁ => wpAny (model X.prog X.w) X.A (noteFrame e X.env) (fun _ s₂ => wpAny (model X.prog X.w) X.A (setFlight e none) (fun _ s₃ =>
    wpAny (model X.prog X.w) X.A (handleBy e X.env [.ExceptHandler (some (.Name x np)) (some n) (b₀ :: suite) pos']) (SP X pins D) X.xe s₃) X.xe s₂) X.xe s₁) (fun u s' xx => ?_) PassesOwn.looking).run [] s σ H D (I.toTry _) h) (fun f s1 hsp => ?_) (fun e s1 he => he)
  · obtain ⟨a, B, sI, pins', σ', H', cls, d, rfl, J', nb, up, sky, na, os, ag, b, hb1, hyes, hno⟩ := xx
    have J : Inv X pins σ' H' sI := J'.ofTry ok
    have sky' : Sky B (X.env :: X.outer) a (Zc cls d) X.env.locals s'.heap := by rw [← hs]; exact sky
    show wpAny (model X.prog X.w) X.A (noteFrame (.ref a) X.env) _ _ _
    refine Sky.land Zc.steady hfr hf sky' fun h3 fl3 up3 => ?_
    have J3 : Inv X pins σ' H' { s' with heap := h3 } := J.landed nb fl3.1 (up.trans up3) os ag
    obtain ⟨oe3, vs3, he3, hz3, hd3⟩ := fl3.there
    have notFr : ∀ {h : Heap} {o : Obj} {vs : Array Value}, h.FunFrames B (X.env :: X.outer) → h.get? a = some o → o.data = .fields vs → a ∉ frs (X.env :: X.outer) := fun {h o vs} ff e dd hm => by
      obtain ⟨_, o', e', hnf⟩ := ff.mem hm
      rw [e] at e'; cases e'
      exact hnf _ dd
    have nfr := notFr fl3.2.2.1 he3 hd3
    have nL : a ≠ X.env.locals := fun z => nfr (List.mem_filterMap.mpr ⟨X.env, List.mem_cons_self, by rw [hf, z]⟩)
    have nF : a ∉ X.fs := fun hm => by
      obtain ⟨e, he, q⟩ := List.mem_filterMap.mp hm
      exact nfr (List.mem_filterMap.mpr ⟨e, List.mem_cons_of_mem _ he, q⟩)
    have nI : sI.heap.get? a = none := by
      cases e : sI.heap.get? a with
      | none => rfl
      | some o =>
        have z := nb a o e (by rw [hs]; exact nfr)
        rw [fl3.2.1] at z
        cases z
    have n0 : X.s_0.heap.get? a = none := by
      cases e : X.s_0.heap.get? a with
      | none => rfl
      | some o =>
        obtain ⟨o', e'⟩ := J.base.there a o e (by rw [hex]; exact fun z => nomatch z)
        rw [nI] at e'
        cases e'
    have npin : ∀ p ∈ X.pn ++ pins, p.1 ≠ a := fun p hp z => by
      obtain ⟨e, _⟩ := J.pin p hp
      rw [z, nI] at e
      cases e
    have S3 := J3.suite he3 hd3 na nL nF
    refine wpAny_handleBy_cons (codeAny_handlers_test ?_) (by intro q; cases q)
    have LT : PySem.W.Looks (model X.prog X.w) h3 (typeOf (.ref a)) cls := fun A Q E s k q => wpAny_typeOf_ref (k _ _ he3) (by rw [hz3.1]; exact q)
    have LM := PySem.W.exm_one (M := model X.prog X.w) (J3.kIn) LT hb1
    have test : ∀ {Q : Value → Shared → Prop} {E : Value → Shared → Prop}, Q c { s' with heap := h3 } → wpAny (model X.prog X.w) (X.A.mark (some (.ref a))) (eval (.Name x np) X.env) Q E { s' with heap := h3 } := fun {Q E} q => by
      obtain ⟨hg, hdbg, hm | ⟨hm, hv, hnn⟩⟩ := hc
      · exact ld_glob (X := X.suite a ((a, oe3) :: (X.pn ++ pins))) S3 hg hm q hdbg
      · exact ld_blt (X := X.suite a ((a, oe3) :: (X.pn ++ pins))) S3 hg hm hv q hnn hdbg
    refine test (LM.here ?_)
    cases b with
    | true =>
      refine codeAny_handlers_suite_as ?_
      refine HandSPX.lands_againZ fl3 fun h4 fl4 up4 => ?_
      have J4 : Inv X pins σ' H' { s' with heap := h4 } := J.landed nb fl4.1 ((up.trans up3).trans up4) os ag
      obtain ⟨oe4, vs4, he4, hz4, hd4⟩ := fl4.there
      have S4 := J4.suite he4 hd4 na nL nF
      refine store_ok (X := X.suite a ((a, oe4) :: (X.pn ++ pins))) (v := .ref a) S4 hN hi hloc rfl (fun s5 S5 => ?_) (.inr hln)
      refine wpAny_mono ((hsu a oe4 cls d (X.pn ++ pins) hz4 ⟨_, hd4⟩).run [] s5 _ H' _ S5 (hyes rfl a na)) (fun f s6 hsp => ?_) (fun _ _ z => False.elim z)
      have end_ : ∀ {σ6 : L2.St} {H6 : Hp} {Q : Shared → Prop}, Inv (X.suite a ((a, oe4) :: (X.pn ++ pins))) [] σ6 H6 s6 → (∀ s7, H6 a = none → Inv X pins (σ6.set i none) (upd H6 a (kept a cls d)) s7 → Q s7) →
          wpAny (model X.prog X.w) X.A (do bindName X.env n .none; unbindBehindTheSuite X.env n pos') (fun _ s7 => Q s7) X.xe s6 := fun {σ6 H6 Q} S6 hq => by
        obtain ⟨p1, p2, _⟩ := S6.pin (a, oe4) (List.mem_append.mpr (.inl List.mem_cons_self))
        exact gone_ok (My.Inv.track (S6.unsuite ok) p1 hz4 hd4 p2 n0 nL npin) hN hi hln fun s7 J7 => hq s7 p2 J7
      cases f with
      | next =>
        obtain ⟨σ6, H6, S6, q6⟩ := hsp
        exact end_ S6 fun s7 z J7 => ⟨_, _, J7, q6 z⟩
      | brk =>
        obtain ⟨σ6, H6, S6, q6⟩ := hsp
        exact end_ S6 fun s7 z J7 => ⟨_, _, J7, q6 z⟩
      | cont =>
        obtain ⟨σ6, H6, S6, q6⟩ := hsp
        exact end_ S6 fun s7 z J7 => ⟨_, _, J7, q6 z⟩
      | ret u =>
        obtain ⟨v6, σ6, H6, S6, r6, q6⟩ := hsp
        exact end_ S6 fun s7 z J7 => ⟨_, _, _, J7, r6, q6 z⟩
    | false =>
      show wpAny _ X.A (handleBy (.ref a) X.env []) _ _ _
      refine wpAny_handleBy_nil ?_
      obtain ⟨k1, k2, k3, oe, vs, T, oT, ts', he, hz, hd, h1, hr⟩ := id fl3
      unfold PySem.passOn
      refine wpAny_bind (wpAny_field he hd h1 ?_)
      rw [if_neg (show ¬ ((Value.ref T == Value.none) = true) from by simp)]
      have fin : wpAny (model X.prog X.w) X.A (setFlight (.ref a) X.env.frame) (fun _ s4 => wpAny (model X.prog X.w) X.A (throw (.ref a) : Sem Flow) (SP X pins D) X.xe s4) X.xe { s' with heap := h3 } := by
        rw [hf]
        refine HandSPX.setFlight_upZ fl3 fun h4 hh4 up4 => wpAny_throw (tk _ _ ?_)
        exact ⟨a, B, sI, pins, σ', H', cls, d, rfl, J, nb, (up.trans up3).trans up4, .inr (.inr (by rw [hs]; exact hh4)), na, os, ag, hno rfl⟩
      first
        | exact wpAny_bind (wpAny_pure (wpAny_bind fin))
        | exact wpAny_bind fin
  · cases f with
    | next =>
      obtain ⟨σ', H', J', q⟩ := hsp
      exact wpAny_execs_nil ⟨σ', H', J'.ofTry ok, q⟩
    | brk =>
      obtain ⟨σ', H', J', q⟩ := hsp
      exact ⟨σ', H', J'.ofTry ok, q⟩
    | cont =>
      obtain ⟨σ', H', J', q⟩ := hsp
      exact ⟨σ', H', J'.ofTry ok, q⟩
    | ret u =>
      obtain ⟨v, σ', H', J', r, q⟩ := hsp
      exact ⟨v, σ', H', J'.ofTry ok, r, q⟩
end
/-! ### a field of the error that the suite holds -/
def tSf (K : PySem.W.Frag) (a : Addr) (cls : Value) (d : Option Addr) (n : Str) (te : TE) : TE := fun σ H Q => te σ H fun x H1 => ∃ (C dd : Addr) (fs : List (Str × V)) (v : V), x = .ref a ∧ cls = .ref C ∧ d = some dd ∧ H1 dd = some (.xd fs) ∧ ErrC K C ∧ PySem.W.findIn K (.ref C) n = some none ∧ fs.lookup n = some v ∧ Q v H1
theorem pe_sf {X : Cx} {a : Addr} {oe : Obj} {cls : Value} {d : Option Addr} {pn : List (Addr × Obj)} {e : Expr} {te : TE} {pos : Pos} {n : Str} (hz : Zc cls d oe) (hf : ∃ vs, oe.data = .fields vs) (he : PE (X.suite a ((a, oe) :: pn)) e te) (hb : attributeBase e n (X.suite a ((a, oe) :: pn)).env (eval e (X.suite a ((a, oe) :: pn)).env) = eval e (X.suite a ((a, oe) :: pn)).env := by rfl) : PE (X.suite a ((a, oe) :: pn)) (.Attribute e n pos) (tSf X.K a cls d n te) := by
  refine ⟨fun pins s σ H Q I h => ?_⟩
  refine attr_of hb (thn (he.run pins s σ H _ I h) fun u s1 ⟨x, H1, I1, rx, q⟩ => ?_)
  obtain ⟨C, dd, fs, v, rfl, rfl, rfl, ed, E, hno, l, q⟩ := q
  obtain rfl : u = Value.ref a := rx
  obtain ⟨hget, _⟩ := I1.pin (a, oe) (List.mem_append.mpr (.inl List.mem_cons_self))
  obtain ⟨vs, hd⟩ := hf
  obtain ⟨mA, hns, hr⟩ := (show ObjOk X.prog X.w H1 s1.heap dd (.xd fs) from I1.hok dd _ ed)
  obtain ⟨od, ho, hl⟩ := lookIn_ns hns
  obtain ⟨w, hu, ru⟩ := RelO.some_of (v := v) (o := mA n) (by rw [← l]; exact hr n)
  have J : PySem.W.InstAt s1.heap a oe C (some od) := ⟨hget, hz.1, by unfold PySem.W.notCls; rw [hd] <;> rfl, by rw [hz.2]; exact ho⟩
  exact HandSPX.exc_get I1.kIn J E.hg E.hk E.hs (PySem.W.findObj_own E.hd hno rfl (by rw [hl, hu])) (handed_of ru) ⟨v, H1, I1.tok _, ru, q⟩
def Cnd (lo hi : Int) (t : Nat) : Prop := lo / 2 ^ t * 2 ^ t = lo ∧ hi / 2 ^ t * 2 ^ t = hi ∧ (hi - lo) / 2 ^ t ≤ 16 ∧ (8 < (hi - lo) / 2 ^ t ∨ t = 0)
theorem cpd {x : Int} {s : Nat} (h0 : 0 ≤ x) (h1 : x ≤ 4096) (h : s ≤ 8) : CPow (x / 2 ^ s) (s : Int) := by
  have := div_le' (s := s) h0
  exact ⟨by omega, by omega, na (by omega) (by omega)⟩
theorem cnd_ex {lo hi : Int} {t : Nat} (b : Bd lo hi) (h8 : t ≤ 8) (c : Cnd lo hi t) : Ex lo hi t := by
  obtain ⟨b1, b2, b3⟩ := b
  unfold Cnd at c
  unfold Ex StepIs Dd
  refine ⟨⟨h8, ?_, fun u hu => ?_⟩, c.1, ?_⟩
  · rcases le8 h8 with e | e | e | e | e | e | e | e | e <;> subst e <;> simp at * <;> omega
  · have h9 : u ≤ 8 := by omega
    rcases le8 h8 with e | e | e | e | e | e | e | e | e <;> subst e <;> rcases le8 h9 with e | e | e | e | e | e | e | e | e <;> subst e <;> first | omega | (simp at *; omega)
  · rcases le8 h8 with e | e | e | e | e | e | e | e | e <;> subst e <;> simp at * <;> omega
theorem ex_cnd {lo hi : Int} {t : Nat} (b : Bd lo hi) (e : Ex lo hi t) : t ≤ 8 ∧ Cnd lo hi t := by
  obtain ⟨⟨h8, h1, h2⟩, e1, e2⟩ := e
  obtain ⟨b1, b2, b3⟩ := b
  have h3 : t = 0 ∨ 15 < Dd lo hi (t - 1) := by
    rcases Nat.eq_zero_or_pos t with e | e
    · exact .inl e
    · exact .inr (h2 _ (by omega))
  clear h2
  refine ⟨h8, ?_⟩
  unfold Cnd Dd at *
  rcases le8 h8 with e | e | e | e | e | e | e | e | e <;> subst e <;> simp at * <;> omega

theorem filter_take (l : List Nat) (f : Nat → Bool) {i c : Nat} (h : l[i]? = some c) : (l.take (i + 1)).filter f = (l.take i).filter f ++ (if f c = true then [c] else []) := by
  rw [List.take_add_one, h, List.filter_append]
  congr 1
  by_cases e : f c = true
  · simp [e]
  · simp [e]
theorem in_digits (c : Nat) : decide (c ∈ (Str.ofString "0123456789").cps.toList) = isF c := by
  have e : (Str.ofString "0123456789").cps.toList = [48, 49, 50, 51, 52, 53, 54, 55, 56, 57] := by decide +kernel
  rw [e]
  unfold isF
  rw [Bool.eq_iff_iff, Bool.and_eq_true, decide_eq_true_iff, decide_eq_true_iff, decide_eq_true_iff]
  simp only [List.mem_cons, List.not_mem_nil, or_false]
  omega
theorem ok_ones {l : List Nat} (h : ∀ c ∈ l, c < 128) : ∀ x ∈ l.map one, PyData.strOk x = true := fun x hx => by
  obtain ⟨c, hc, rfl⟩ := List.mem_map.mp hx
  have := h c hc
  unfold PyData.strOk one
  simp; omega
theorem badl_nil {l : List Nat} : (l.filter fun c => !isF c) = [] ↔ ∀ c ∈ l, isF c = true := by
  rw [List.filter_eq_nil_iff]
  exact ⟨fun h c hc => by have := h c hc; simpa using this, fun h c hc => by rw [h c hc]; simp⟩
theorem cutS_to (z : List Nat) (m : Nat) : cutS (SX.S z) none (some (m : Int)) = SX.S (z.take m) := by
  rw [C8.cutS_slice, SX.slice_to (by omega)]
  rfl
theorem cutS_from (z : List Nat) (m : Nat) : cutS (SX.S z) (some (m : Int)) none = SX.S (z.drop m) := by
  rw [C8.cutS_slice, SX.slice_from (by omega)]
  rfl
theorem eqv_none (l : List Str) : PyData.eqv (.list (l.map .str)) (.list []) = l.isEmpty := by
  cases l with
  | nil => rfl
  | cons c l => simp [PyData.eqv, PyData.eqvAll]

/-! ### the laws' own figures -/
def figOk (z : List Nat) : Bool := !z.isEmpty && decide (z.length ≤ 20) && z.all isF && (decide (z.head? ≠ some 48) || decide (z = [48]))
def fV (z : List Nat) : V := if figOk z = true then .int ((NumText.digitsVal z : Nat) : Int) else .non
theorem canon {z : List Nat} (ne : z ≠ []) (h : z.all isF = true) (k : z.head? ≠ some 48 ∨ z = [48]) : TL.numL (NumText.digitsVal z) = z := by
  have ad := allF h
  cases z with
  | nil => exact absurd rfl ne
  | cons c r =>
    have c9 := ad c (List.mem_cons_self ..)
    have e := NumText.toDigits_digitsVal r.length (c :: r) rfl ad (by
      rcases k with k | k
      · refine .inr ⟨c, r, rfl, ?_⟩
        have : c ≠ 48 := fun e => k (by rw [e]; rfl)
        omega
      · injection k with _ k
        exact .inl (by rw [k]; rfl))
    show (Nat.toDigits 10 (NumText.digitsVal (c :: r))).map Char.toNat = c :: r
    rw [e, List.map_map]
    refine (List.map_congr_left fun d hd => ?_).trans (List.map_id _)
    have d9 := ad d hd
    have h10 : d = 48 ∨ d = 49 ∨ d = 50 ∨ d = 51 ∨ d = 52 ∨ d = 53 ∨ d = 54 ∨ d = 55 ∨ d = 56 ∨ d = 57 := by omega
    rcases h10 with e | e | e | e | e | e | e | e | e | e <;> subst e <;> rfl
theorem fig_num {z : List Nat} (h : figOk z = true) : z = numI ((NumText.digitsVal z : Nat) : Int) := by
  unfold figOk at h
  simp only [Bool.and_eq_true, Bool.not_eq_true', Bool.or_eq_true, decide_eq_true_eq] at h
  obtain ⟨⟨⟨h1, h2⟩, h3⟩, h4⟩ := h
  have ne : z ≠ [] := fun e => by rw [e] at h1; cases h1
  unfold numI
  rw [if_neg (by omega), Int.toNat_natCast]
  exact (canon ne h3 h4).symm
theorem numI_fig {i : Int} (h0 : 0 ≤ i) (h1 : i ≤ 35184372088832) : figOk (numI i) = true ∧ ((NumText.digitsVal (numI i) : Nat) : Int) = i := by
  have e : numI i = TL.numL i.toNat := by unfold numI; rw [if_neg (by omega)]
  have l := numI_len (i := i) (k := 14) (by decide) (by omega)
  have ne := numI_ne i
  rw [e] at l ne ⊢
  refine ⟨?_, by rw [TL.numL_val]; omega⟩
  unfold figOk
  rw [numL_all]
  simp only [Bool.and_eq_true, Bool.not_eq_true', Bool.or_eq_true, decide_eq_true_eq, List.isEmpty_eq_false_iff]
  refine ⟨⟨⟨ne, by omega⟩, trivial⟩, ?_⟩
  by_cases z : i = 0
  · subst z
    exact .inr (TL.numL_lt (by decide))
  · exact .inl (numL_head (by omega))
theorem fV_num {i : Int} (h0 : 0 ≤ i) (h1 : i ≤ 35184372088832) : fV (numI i) = .int i := by
  obtain ⟨a, b⟩ := numI_fig h0 h1
  unfold fV
  rw [if_pos a, b]
theorem fV_int {z : List Nat} {i : Int} (h : fV z = .int i) : 0 ≤ i ∧ z = numI i := by
  unfold fV at h
  split at h
  · rename_i c
    have e := V.int.inj h
    have f := fig_num c
    rw [e] at f
    exact ⟨by omega, f⟩
  · cases h
theorem fV_or (z : List Nat) : fV z = .non ∨ ∃ i, fV z = .int i := by
  unfold fV
  split
  · exact .inr ⟨_, rfl⟩
  · exact .inl rfl
theorem kd_fV {H : Hp} (z : List Nat) : Kd H (fV z) := by
  unfold fV
  split
  · exact .int _
  · exact .non
/-- x.split(sign, 1), the sign being there -/
theorem splitMax1 {c : Nat} {z : List Nat} (hc : c < 256) (h : c ∈ z) : Txt.splitMax (SX.S z) (SX.S [c]) 1 = [SX.S (cutA c z), SX.S (cutB c z)] := by
  obtain ⟨m, pS⟩ := part_S c z
  obtain ⟨a, b, rfl, na⟩ := split_at h
  have lp : 1 ≤ (SX.S (a ++ c :: b)).length := by rw [SX.S_len, List.length_append, List.length_cons]; omega
  have k1 : (decide ((SX.S (a ++ c :: b)).length < (SX.S [c]).length) || decide (Builtin.Str.strKind (SX.S (a ++ c :: b)) < Builtin.Str.strKind (SX.S [c]))) = false := by
    rw [Bool.or_eq_false_iff]
    refine ⟨decide_eq_false ?_, decide_eq_false (TL.kind_ok ?_)⟩
    · have : (SX.S [c]).length = 1 := rfl
      omega
    · exact SX.all256 (b := [c]) (by simp [hc])
  have ol := StrLaws.occ_length_le (SX.S (a ++ c :: b)) (SX.S [c]) 0 (SX.S (a ++ c :: b)).length 1
  unfold Txt.partition at pS
  unfold Txt.splitMax
  rw [k1, if_neg Bool.false_ne_true]
  have lim : limitOf (SX.S (a ++ c :: b)) 1 = 1 := rfl
  rw [lim]
  revert pS ol
  cases Builtin.Str.occurrences (SX.S (a ++ c :: b)) (SX.S [c]) 0 (SX.S (a ++ c :: b)).length 1 with
  | nil =>
    intro pS _
    have e : a ++ c :: b = cutA c (a ++ c :: b) := SX.S_inj (congrArg (fun q : Str × Str × Str => q.1) pS)
    rw [(cut_app b na).1] at e
    have := congrArg List.length e
    rw [List.length_append, List.length_cons] at this
    omega
  | cons i r =>
    intro pS ol
    have er : r = [] := by
      cases r with
      | nil => rfl
      | cons x y => simp at ol
    subst er
    have e1 : Builtin.Str.strSub (SX.S (a ++ c :: b)) 0 i = SX.S (cutA c (a ++ c :: b)) := congrArg (fun q : Str × Str × Str => q.1) pS
    have e2 : Builtin.Str.strSub (SX.S (a ++ c :: b)) (i + (SX.S [c]).length) (SX.S (a ++ c :: b)).length = SX.S (cutB c (a ++ c :: b)) := congrArg (fun q : Str × Str × Str => q.2.2) pS
    show [Builtin.Str.strSub _ 0 i, Builtin.Str.strSub _ (i + (SX.S [c]).length) _] = _
    rw [e1, e2]
theorem cat_S {x t : Str} {a y : List Nat} (ex : x = SX.S a) (et : t = SX.S y) : x ++ t = SX.S (a ++ y) := by rw [ex, et, SX.S_cat]
theorem fit_S {x t : Str} {a y : List Nat} (ex : x = SX.S a) (et : t = SX.S y) (l : (a ++ y).length ≤ 200) : x.length + t.length ≤ sizeLine := by rw [ex, et, SX.S_len, SX.S_len, sizeLine_eq]; rw [List.length_append] at l; omega
theorem fig_iff {z : List Nat} : figOk z = true ↔ z ≠ [] ∧ z.length ≤ 20 ∧ (∀ c ∈ z, isF c = true) ∧ (z.head? ≠ some 48 ∨ z = [48]) := by
  unfold figOk
  simp only [Bool.and_eq_true, Bool.not_eq_true', Bool.or_eq_true, decide_eq_true_eq, List.isEmpty_eq_false_iff, List.all_eq_true, and_assoc]
/-! ### the law's own reading of a word's text -/
theorem hu65 {A : Around} {k : Nat} (hr : Room k A) : A.units + 65 < cLine := by have := hr.un; omega
def sg (j : Nat) : Nat := [45, 64, 58, 47].getD j 0
def Rz (z : List Nat) : Nat → List Nat
  | 0 => z
  | j + 1 => cutB (sg j) (Rz z j)
def Pz (z : List Nat) (j : Nat) : List Nat := cutA (sg j) (Rz z j)
theorem Rz_len (z : List Nat) : ∀ j, (Rz z j).length ≤ z.length
  | 0 => Nat.le_refl _
  | j + 1 => Nat.le_trans (cut_len (sg j) (Rz z j)).2 (Rz_len z j)
theorem cut_mem {c d : Nat} {z : List Nat} : (d ∈ cutA c z → d ∈ z) ∧ (d ∈ cutB c z → d ∈ z) :=
  ⟨fun h => (List.takeWhile_sublist _).subset h, fun h => (List.dropWhile_sublist _).subset (List.mem_of_mem_drop h)⟩
theorem Rz_mem {z : List Nat} {c : Nat} : ∀ j, c ∈ Rz z j → c ∈ z
  | 0, h => h
  | j + 1, h => Rz_mem j (cut_mem.2 h)
theorem Pz_len (z : List Nat) (j : Nat) : (Pz z j).length ≤ z.length := Nat.le_trans (cut_len _ _).1 (Rz_len z j)
theorem Pz_mem {z : List Nat} {c : Nat} {j : Nat} (h : c ∈ Pz z j) : c ∈ z := Rz_mem j (cut_mem.1 h)
theorem cut_back {c : Nat} {z : List Nat} (h : c ∈ z) : cutA c z ++ c :: cutB c z = z := by
  obtain ⟨a, b, rfl, na⟩ := split_at h
  obtain ⟨e1, e2⟩ := cut_app b na
  rw [e1, e2]
theorem parts_back {z : List Nat} (h : ∀ j, j < 4 → sg j ∈ Rz z j) : z = Pz z 0 ++ 45 :: (Pz z 1 ++ 64 :: (Pz z 2 ++ 58 :: (Pz z 3 ++ 47 :: Rz z 4))) := by
  have h0 : Pz z 0 ++ 45 :: Rz z 1 = Rz z 0 := cut_back (h 0 (by decide))
  have h1 : Pz z 1 ++ 64 :: Rz z 2 = Rz z 1 := cut_back (h 1 (by decide))
  have h2 : Pz z 2 ++ 58 :: Rz z 3 = Rz z 2 := cut_back (h 2 (by decide))
  have h3 : Pz z 3 ++ 47 :: Rz z 4 = Rz z 3 := cut_back (h 3 (by decide))
  rw [h3, h2, h1, h0]
  rfl
theorem MT.cuts {z : List Nat} {b : Int} (h : MT z b) : (∀ j, j < 4 → sg j ∈ Rz z j) ∧ ∃ lo hi at' p kd s, WF b lo hi at' p kd s ∧ Pz z 0 = numI lo ∧ Pz z 1 = numI hi ∧ Pz z 2 = numI at' ∧ Pz z 3 = rtL p ∧ Rz z 4 = numI kd := by
  obtain ⟨lo, hi, at', p, kd, s, W, rfl⟩ := h
  obtain ⟨r1, r2, r3, r4, r5, r6, r7, r8⟩ := W.rng
  have c0 := cut_app (c := 45) (a := numI lo) (numI hi ++ 64 :: (numI at' ++ 58 :: (rtL p ++ 47 :: numI kd))) (numI_not r1 (by omega))
  have c1 := cut_app (c := 64) (a := numI hi) (numI at' ++ 58 :: (rtL p ++ 47 :: numI kd)) (numI_not r3 (by omega))
  have c2 := cut_app (c := 58) (a := numI at') (rtL p ++ 47 :: numI kd) (numI_not r5 (by omega))
  have c3 := cut_app (c := 47) (a := rtL p) (numI kd) (rtL_not (by omega) (by decide))
  have e1 : Rz (wtx lo hi at' p kd) 1 = numI hi ++ 64 :: (numI at' ++ 58 :: (rtL p ++ 47 :: numI kd)) := c0.2
  have e2 : Rz (wtx lo hi at' p kd) 2 = numI at' ++ 58 :: (rtL p ++ 47 :: numI kd) := by show cutB 64 (Rz _ 1) = _; rw [e1, c1.2]
  have e3 : Rz (wtx lo hi at' p kd) 3 = rtL p ++ 47 :: numI kd := by show cutB 58 (Rz _ 2) = _; rw [e2, c2.2]
  have e4 : Rz (wtx lo hi at' p kd) 4 = numI kd := by show cutB 47 (Rz _ 3) = _; rw [e3, c3.2]
  refine ⟨fun j hj => ?_, lo, hi, at', p, kd, s, W, c0.1, ?_, ?_, ?_, e4⟩
  · have : j = 0 ∨ j = 1 ∨ j = 2 ∨ j = 3 := by omega
    rcases this with e | e | e | e <;> subst e
    · show 45 ∈ wtx lo hi at' p kd
      exact List.mem_append_right _ (List.mem_cons_self ..)
    · rw [e1]; exact List.mem_append_right _ (List.mem_cons_self ..)
    · rw [e2]; exact List.mem_append_right _ (List.mem_cons_self ..)
    · rw [e3]; exact List.mem_append_right _ (List.mem_cons_self ..)
  · show cutA 64 (Rz _ 1) = _; rw [e1, c1.1]
  · show cutA 58 (Rz _ 2) = _; rw [e2, c2.1]
  · show cutA 47 (Rz _ 3) = _; rw [e3, c3.1]
def rrL (z : List Nat) : List Nat := if z = [45] then [] else if z = [] then [110, 111, 110, 101] else z
theorem rr_back {z : List Nat} {p : Nat → Bool} (h : SX.S (rrL z) = rtx p) : z = rtL p := by
  have e : rrL z = (rtx p).cps.toList := by rw [← h]
  unfold rrL at e
  unfold rtL
  split at e
  · rename_i c
    rw [← e, if_pos rfl]; exact c
  · split at e
    · have : 101 ∈ (rtx p).cps.toList := by rw [← e]; decide
      obtain ⟨k, hk, ek⟩ := rtx_codes_mem this
      have : ∀ k, k < 9 → 101 ≠ code k := by decide
      exact absurd ek (this k hk)
    · rename_i n
      rw [← e, if_neg n]
theorem rr_rtL (p : Nat → Bool) : SX.S (rrL (rtL p)) = rtx p := by
  have key : rrL (rtL p) = (rtx p).cps.toList := by
    unfold rtL
    split
    · rename_i h; rw [h]; rfl
    · rename_i h
      unfold rrL
      rw [if_neg, if_neg h]
      intro e
      have m : 45 ∈ (rtx p).cps.toList := by rw [e]; decide
      obtain ⟨k, hk, ek⟩ := rtx_codes_mem m
      have := code_big k hk
      omega
  rw [key, S_back]
theorem rrL_len {z : List Nat} : (rrL z).length ≤ z.length + 4 := by
  unfold rrL
  split
  · simp
  · split
    · simp
    · omega
theorem rrL_mem {z : List Nat} (h : ∀ c ∈ z, c < 128) : ∀ c ∈ rrL z, c < 128 := by
  unfold rrL
  intro c hc
  split at hc
  · cases hc
  · split at hc
    · simp at hc; omega
    · exact h c hc
theorem whole_plain {z : List Nat} {b : Int} (h : wholeIn z = .int b) (h0 : 0 ≤ b) (h1 : b ≤ 35184372088832) : z = numI b := by
  unfold wholeIn at h
  split at h
  · rename_i ok
    injection h with hv
    unfold wholeOk at ok
    simp only [Bool.and_eq_true, Bool.not_eq_true', Bool.or_eq_true, decide_eq_true_eq, List.isEmpty_eq_false_iff] at ok
    obtain ⟨⟨⟨k1, k2⟩, k3⟩, k4⟩ := ok
    cases e : negL z with
    | false =>
      have f : figs z = z := by unfold figs; rw [e, if_neg Bool.false_ne_true]
      rw [f] at k1 k2 k4
      have c := canon k1 k2 k4
      unfold wholeV at hv
      rw [e, if_neg Bool.false_ne_true, f] at hv
      unfold numI
      rw [if_neg (by omega), ← hv, Int.toNat_natCast, c]
    | true =>
      exfalso
      unfold wholeV at hv
      rw [e, if_pos rfl] at hv
      have z0 : NumText.digitsVal (figs z) = 0 := by omega
      have nz : z ≠ [48] := fun q => by rw [q] at e; exact absurd e (by decide)
      have k5 : (figs z).head? ≠ some 48 := k4.resolve_right nz
      have c := canon k1 k2 (.inl k5)
      rw [z0] at c
      have t : TL.numL 0 = [48] := TL.numL_lt (by decide)
      rw [t] at c
      rw [← c] at k5
      exact k5 rfl
  · cases h
theorem RT2.fig {z : List Nat} {m : Bool} {b : Int} (h : RT2 z m b) (n : 64 ∉ z ∨ figOk z = true) : m = false ∧ W45 b ∧ wholeIn z = .int b ∧ fV z = .int b := by
  rcases h with ⟨a, e, h⟩ | ⟨a, e, w, h⟩
  · rcases n with n | n
    · exact absurd a n
    · exfalso
      have := (fig_iff.mp n).2.2.1 64 a
      exact absurd this (by decide)
  · refine ⟨e, w, h, ?_⟩
    have := whole_plain h w.1 (by have := w.2; omega)
    rw [this]
    exact fV_num w.1 (by have := w.2; omega)
def dF (z : List Nat) : PyData := if figOk z = true then .int ((NumText.digitsVal z : Nat) : Int) else .none
theorem dF_dp {K : PySem.W.Frag} {H : Hp} (z : List Nat) : Dp K H (fV z) (dF z) := by
  unfold fV dF
  split
  · exact .int _
  · exact .non
theorem dF4_sh (a b c d : List Nat) : SeqAt.shaped (.list [dF a, dF b, dF c, dF d]) = true := by
  unfold SeqAt.shaped dF
  split <;> split <;> split <;> split <;> simp [PyData.depth, PyData.depthAll, PyData.canLay0, PyData.canLayAll0]
theorem nin4 (a b c d : List Nat) : ([dF a, dF b, dF c, dF d].any fun z => PyData.eqv z .none) = !(figOk a && figOk b && figOk c && figOk d) := by
  have one' : ∀ z, PyData.eqv (dF z) .none = !figOk z := fun z => by
    unfold dF
    split
    · rename_i h; rw [h]; simp [PyData.eqv]
    · rename_i h
      have : figOk z = false := by simpa using h
      rw [this]; simp [PyData.eqv]
  simp only [List.any_cons, List.any_nil, one']
  cases figOk a <;> cases figOk b <;> cases figOk c <;> cases figOk d <;> rfl
theorem fV_ok {z : List Nat} (h : figOk z = true) : fV z = .int ((NumText.digitsVal z : Nat) : Int) := by unfold fV; rw [if_pos h]
theorem fV_no {z : List Nat} (h : figOk z = false) : fV z = .non := by unfold fV; rw [h]; exact if_neg Bool.false_ne_true
def SGS : Str := Str.ofString "-@:/"
theorem SGS_size : SGS.cps.size = 4 := by decide +kernel
theorem SGS_get : ∀ j, j < 4 → SGS.cps[j]? = some (sg j) := by decide +kernel
theorem sg_small {j : Nat} (h : j < 4) : sg j < 256 := by
  have : j = 0 ∨ j = 1 ∨ j = 2 ∨ j = 3 := by omega
  rcases this with e | e | e | e <;> subst e <;> decide
theorem MT.figs {z : List Nat} {b : Int} (h : MT z b) : figOk (Pz z 0) = true ∧ figOk (Pz z 1) = true ∧ figOk (Pz z 2) = true ∧ figOk (Rz z 4) = true := by
  obtain ⟨_, lo, hi, at', p, kd, s, W, e0, e1, e2, e3, e4⟩ := h.cuts
  obtain ⟨r1, r2, r3, r4, r5, r6, r7, r8⟩ := W.rng
  rw [e0, e1, e2, e4]
  exact ⟨(numI_fig r1 (by omega)).1, (numI_fig r3 (by omega)).1, (numI_fig r5 (by omega)).1, (numI_fig r7 (by omega)).1⟩
/-- what the tests of the fields ask -/
theorem MT.tests {z : List Nat} {b a0 a1 a2 a4 : Int} (h : MT z b) (f0 : fV (Pz z 0) = .int a0) (f1 : fV (Pz z 1) = .int a1) (f2 : fV (Pz z 2) = .int a2) (f4 : fV (Rz z 4) = .int a4) :
    Bd a0 a1 ∧ (∃ s, Ex a0 a1 s) ∧ a2 ≤ 4095 ∧ a4 ≤ 15 ∧ SX.S (rrL (Pz z 3)) = rtx (hasR (SX.S (rrL (Pz z 3)))) ∧ OneW (SX.S (rrL (Pz z 3))) := by
  obtain ⟨_, lo, hi, at', p, kd, s, W, e0, e1, e2, e3, e4⟩ := h.cuts
  obtain ⟨r1, r2, r3, r4, r5, r6, r7, r8⟩ := W.rng
  rw [e0, fV_num r1 (by omega)] at f0
  rw [e1, fV_num r3 (by omega)] at f1
  rw [e2, fV_num r5 (by omega)] at f2
  rw [e4, fV_num r7 (by omega)] at f4
  cases f0; cases f1; cases f2; cases f4
  rw [e3, rr_rtL]
  exact ⟨W.bd, ⟨s, W.ex⟩, r6, r8, rtx_self p, W.ow⟩
theorem due_mt {z : List Nat} {a0 a1 a2 a4 : Int} {s : Nat} (hs : ∀ j, j < 4 → sg j ∈ Rz z j) (f0 : fV (Pz z 0) = .int a0) (f1 : fV (Pz z 1) = .int a1) (f2 : fV (Pz z 2) = .int a2) (f4 : fV (Rz z 4) = .int a4)
    (bd : Bd a0 a1) (ex : Ex a0 a1 s) (h2 : a2 ≤ 4095) (h4 : a4 ≤ 15) (hr : SX.S (rrL (Pz z 3)) = rtx (hasR (SX.S (rrL (Pz z 3))))) (ow : OneW (SX.S (rrL (Pz z 3)))) : MT z (wbits a0 a1 a2 (maskOf (SX.S (rrL (Pz z 3)))) a4 s) := by
  obtain ⟨z0, y0⟩ := fV_int f0
  obtain ⟨z1, y1⟩ := fV_int f1
  obtain ⟨z2, y2⟩ := fV_int f2
  obtain ⟨z4, y4⟩ := fV_int f4
  refine ⟨a0, a1, a2, hasR (SX.S (rrL (Pz z 3))), a4, s, ⟨bd, ex, z2, h2, z4, h4, by rw [← hr]; exact ow, by rw [← hr]⟩, ?_⟩
  have y3 := rr_back hr
  unfold wtx
  rw [← y3, ← y0, ← y1, ← y2, ← y4]
  exact parts_back hs
/-- texts that a bent text takes in -/
def OddT (v : V) : Prop := ∃ w : List Nat, v = V.str (SX.S w) ∧ w.length ≤ 4 ∧ ∀ c ∈ w, c < 128
theorem odd_lit {s : String} (h : (decide ((Str.ofString s).cps.toList.length ≤ 4) && (Str.ofString s).cps.toList.all (fun c => decide (c < 128))) = true := by decide +kernel) : OddT (V.str (Str.ofString s)) := by
  rw [Bool.and_eq_true] at h
  refine ⟨(Str.ofString s).cps.toList, by rw [S_back], of_decide_eq_true h.1, fun c m => ?_⟩
  exact of_decide_eq_true (List.all_eq_true.mp h.2 c m)
/-! ### what is shown -/
theorem wD_nice {m : Bool} {b : Int} (w : W45 b) : Nice 300 2 (wD m b) := by
  have h : b.natAbs < 2 ^ 45 := by have := w.1; have := w.2; omega
  exact (NiceAll.tuple (NiceAll.cons (nice_bool (n := 0) (k := 1) m) (NiceAll.cons (nice_int (k := 1) h (by decide)) (NiceAll.nil (n := 0))))).mono (by decide) (by decide)
def NL : PyData := .list [.str (Str.ofString "none"), .int 0]
theorem NL_nice : Nice 300 2 NL := (NiceAll.list (NiceAll.cons (nice_lit (n := 4) (k := 1) (by decide +kernel)) (NiceAll.cons (nice_int (m := 1) (k := 1) (by decide) (by decide)) (NiceAll.nil (n := 0))))).mono (by decide) (by decide)
theorem NL_dp {K : PySem.W.Frag} {H : Hp} {p : Addr} (h : H p = some (.lst [.str (Str.ofString "none"), .int 0])) : Dp K H (.ref p) NL := .lst (.of h) (.cons (.str _) (.cons (.int _) .nil))
theorem Nice.ff {n : Nat} {d : PyData} (f : Nice n 2 d) (h : n ≤ 25000) : d.showable = true ∧ d.hasDict = false ∧ d.depth ≤ 50 ∧ d.shown.length ≤ sizeLine := ⟨f.ft.sh, f.nd, Nat.le_trans f.ft.dp (by decide), f.ft.line h⟩
/-! ### the things that are read -/
def OkT (G : Hp) (v : V) : Prop := ∃ d, Dx G v d ∧ ∀ s, d = .str s → s.cps.toList.length ≤ 1000 ∧ ∀ c ∈ s.cps.toList, c < 128
theorem OkT.same {G G' : Hp} {v : V} (h : OkT G v) (s : Same G G') : OkT G' v := by
  obtain ⟨d, hd, k⟩ := h
  exact ⟨d, hd.same s, k⟩
theorem okt_S {G : Hp} {z : List Nat} (h : z.length ≤ 1000) (k : ∀ c ∈ z, c < 128) : OkT G (.str (SX.S z)) := ⟨.str (SX.S z), .str _, fun s e => by cases e; exact ⟨h, k⟩⟩
theorem okt_str {G : Hp} {r : Str} (h : r.cps.toList.length ≤ 1000) (k : ∀ c ∈ r.cps.toList, c < 128) : OkT G (.str r) := ⟨.str r, .str _, fun s e => by cases e; exact ⟨h, k⟩⟩
theorem okt_lit {G : Hp} {s : String} (h : (decide ((Str.ofString s).cps.toList.length ≤ 1000) && (Str.ofString s).cps.toList.all (fun c => decide (c < 128))) = true := by decide +kernel) : OkT G (V.str (Str.ofString s)) := by
  rw [Bool.and_eq_true] at h
  exact okt_str (of_decide_eq_true h.1) fun c m => of_decide_eq_true (List.all_eq_true.mp h.2 c m)
theorem okt_non {G : Hp} : OkT G .non := ⟨.none, .non, fun s e => nomatch e⟩
theorem okt_int {G : Hp} (i : Int) : OkT G (.int i) := ⟨.int i, .int i, fun s e => nomatch e⟩
theorem okt_bl {G : Hp} (b : Bool) : OkT G (.bl b) := ⟨.bool b, .bl b, fun s e => nomatch e⟩
theorem okt_lst {G : Hp} {p : Addr} {z : Str} (h : G p = some (.lst [.str z])) : OkT G (.ref p) := ⟨.list [.str z], .lst h (.cons (.str _) .nil), fun s e => nomatch e⟩
theorem okt_tup {G : Hp} {p : Addr} {m : Bool} {b : Int} (h : G p = some (.tup [.bl m, .int b])) : OkT G (.ref p) := ⟨.tuple [.bool m, .int b], .tup h (.cons (.bl _) (.cons (.int _) .nil)), fun s e => nomatch e⟩
theorem RT2.w45 {z : List Nat} {m : Bool} {b : Int} (h : RT2 z m b) : W45 b := by
  rcases h with ⟨_, _, h⟩ | ⟨_, _, w, _⟩
  · exact h.law.1
  · exact w
theorem WT.ascii {z : List Nat} {m : Bool} {b : Int} (h : WT z m b) : ∀ c ∈ z, c < 128 := by
  rcases h with ⟨_, lo, hi, at', p, kd, s, W, rfl⟩ | ⟨_, w, rfl⟩
  · obtain ⟨r1, r2, r3, r4, r5, r6, r7, r8⟩ := W.rng
    intro c m
    unfold wtx at m
    simp only [List.mem_append, List.mem_cons] at m
    rcases m with m | m | m | m | m | m | m | m | m
    · have := numI_nn r1 m; omega
    · omega
    · have := numI_nn r3 m; omega
    · omega
    · have := numI_nn r5 m; omega
    · omega
    · have := rtL_codes m; omega
    · omega
    · have := numI_nn r7 m; omega
  · intro c m
    have := numI_nn w.1 m; omega
theorem okt_num {G : Hp} {i : Int} (h0 : 0 ≤ i) (h1 : i ≤ 35184372088832) : OkT G (V.str (Str.ofString (toString i))) := by
  rw [num_text]
  have l := numI_len (i := i) (k := 14) (by decide) (by omega)
  exact okt_S (by omega) fun c m => by have := numI_nn h0 m; omega
def NIL : Str := Str.ofString ""
theorem nil_rtx : rtx (hasR NIL) = NIL := by decide +kernel
def B0 : Int := wbits 0 1 0 (maskOf NIL) 0 0
theorem W0 : WF B0 0 1 0 (hasR NIL) 0 0 :=
  ⟨⟨by decide, by decide, by decide⟩, ⟨⟨by decide, by unfold Dd; decide, fun t h => absurd h (Nat.not_lt_zero t)⟩, by decide, by decide⟩, by decide, by decide, by decide, by decide, by rw [nil_rtx]; unfold OneW; decide +kernel, by rw [nil_rtx]; rfl⟩
def TXT0 : Str := Str.ofString "0-1@0:-/0"
theorem txt0_S : TXT0.cps.toList = wtx 0 1 0 (hasR NIL) 0 := by
  have e0 : numI 0 = [48] := by unfold numI; rw [if_neg (by decide)]; exact TL.numL_lt (by decide)
  have e1 : numI 1 = [49] := by unfold numI; rw [if_neg (by decide)]; exact TL.numL_lt (by decide)
  have er : rtL (hasR NIL) = [45] := by unfold rtL; rw [nil_rtx]; decide +kernel
  unfold wtx
  rw [e0, e1, er]
  decide +kernel
theorem rt0 : RT2 TXT0.cps.toList true B0 := .inl ⟨by decide +kernel, rfl, 0, 1, 0, hasR NIL, 0, 0, W0, txt0_S⟩
theorem f50 : F5 [.int 0, .int 1, .int 0, .str NIL, .int 0] := by have := W0.f5; rw [nil_rtx] at this; exact this
theorem wt7 {z : List Nat} (h : WT z false 7) : SX.S z = Str.ofString "7" := by
  rcases h with ⟨e, _⟩ | ⟨_, _, rfl⟩
  · cases e
  · have e1 : numI 7 = [55] := by unfold numI; rw [if_neg (by decide)]; exact TL.numL_lt (by decide)
    rw [e1]
    decide +kernel

def topS (i : Nat) : Stmt := PySem.Challenge.pw_sealedreach_k71_words_written_and_read.main.body.getD i (.Pass ⟨0, 0, 0, 0⟩)
abbrev s_whole_in : Stmt := topS 9
abbrev s_is_whole : Stmt := topS 8
abbrev s_are_bounds : Stmt := topS 15
abbrev s_look_at_bounds : Stmt := topS 16
abbrev s__steps_over : Stmt := topS 20
abbrev s_in_bits : Stmt := topS 19
abbrev s_least_bounds : Stmt := topS 18
abbrev s_is_exact : Stmt := topS 17
abbrev s__has_some : Stmt := topS 44
abbrev s__lead_one_way : Stmt := topS 43
abbrev s_bits_of_rights : Stmt := topS 40
abbrev s_field : Stmt := topS 37
abbrev s_rights_in : Stmt := topS 39
abbrev s__tell : Stmt := topS 41
abbrev s_bounds_in : Stmt := topS 38
abbrev s_fields_of : Stmt := topS 35
abbrev s_is_rights : Stmt := topS 33
abbrev s__are_fields : Stmt := topS 45
abbrev s_word_of : Stmt := topS 36
abbrev s_is_word : Stmt := topS 32
abbrev s__may_be_marked : Stmt := topS 42
abbrev s_is_lawful : Stmt := topS 34
abbrev s_shown_word : Stmt := topS 47
abbrev s__marked_word_in : Stmt := topS 49
abbrev s_read_word : Stmt := topS 48
abbrev s__law_take : Stmt := topS 52
abbrev s__law_pool : Stmt := topS 51
abbrev s__law_bits : Stmt := topS 53
abbrev s__law_mask : Stmt := topS 55
abbrev s__law_drawn : Stmt := topS 54
abbrev s__law_fields : Stmt := topS 56
abbrev s__law_good : Stmt := topS 57
abbrev s__law_text : Stmt := topS 58
abbrev s__law_figures : Stmt := topS 59
abbrev s__law_exact : Stmt := topS 60
abbrev s__law_due : Stmt := topS 61
abbrev s__law_told : Stmt := topS 62
abbrev s__law_bent : Stmt := topS 63
abbrev s_law : Stmt := topS 64
theorem sc_whole_in : FnScope ["text", "figures"] ["text"] (defScope s_whole_in) := ⟨rfl, rfl, rfl, by decide +kernel, rfl, by decide +kernel, by decide +kernel⟩
theorem sc_is_whole : FnScope ["thing", "least", "most"] ["thing", "least", "most"] (defScope s_is_whole) := ⟨rfl, rfl, rfl, by decide +kernel, rfl, by decide +kernel, by decide +kernel⟩
theorem sc_are_bounds : FnScope ["low", "high"] ["low", "high"] (defScope s_are_bounds) := ⟨rfl, rfl, rfl, by decide +kernel, rfl, by decide +kernel, by decide +kernel⟩
theorem sc_look_at_bounds : FnScope ["low", "high"] ["low", "high"] (defScope s_look_at_bounds) := ⟨rfl, rfl, rfl, by decide +kernel, rfl, by decide +kernel, by decide +kernel⟩
theorem sc__steps_over : FnScope ["low", "high", "step", "first", "behind"] ["low", "high", "step"] (defScope s__steps_over) := ⟨rfl, rfl, rfl, by decide +kernel, rfl, by decide +kernel, by decide +kernel⟩
theorem sc_in_bits : FnScope ["low", "high", "step"] ["low", "high"] (defScope s_in_bits) := ⟨rfl, rfl, rfl, by decide +kernel, rfl, by decide +kernel, by decide +kernel⟩
theorem sc_least_bounds : FnScope ["low", "high", "step", "first", "count"] ["low", "high"] (defScope s_least_bounds) := ⟨rfl, rfl, rfl, by decide +kernel, rfl, by decide +kernel, by decide +kernel⟩
theorem sc_is_exact : FnScope ["low", "high"] ["low", "high"] (defScope s_is_exact) := ⟨rfl, rfl, rfl, by decide +kernel, rfl, by decide +kernel, by decide +kernel⟩
theorem sc__has_some : FnScope ["rights", "group", "sign"] ["rights", "group"] (defScope s__has_some) := ⟨rfl, rfl, rfl, by decide +kernel, rfl, by decide +kernel, by decide +kernel⟩
theorem sc__lead_one_way : FnScope ["rights", "group"] ["rights"] (defScope s__lead_one_way) := ⟨rfl, rfl, rfl, by decide +kernel, rfl, by decide +kernel, by decide +kernel⟩
theorem sc_bits_of_rights : FnScope ["rights", "k", "sign"] ["rights"] (defScope s_bits_of_rights) := ⟨rfl, rfl, rfl, by decide +kernel, rfl, by decide +kernel, by decide +kernel⟩
theorem sc_field : FnScope ["bits", "place", "lowest", "many"] ["bits", "place"] (defScope s_field) := ⟨rfl, rfl, rfl, by decide +kernel, rfl, by decide +kernel, by decide +kernel⟩
theorem sc_rights_in : FnScope ["bits", "number", "k", "sign"] ["bits"] (defScope s_rights_in) := ⟨rfl, rfl, rfl, by decide +kernel, rfl, by decide +kernel, by decide +kernel⟩
theorem sc__tell : FnScope ["bits", "step", "count"] ["bits"] (defScope s__tell) := ⟨rfl, rfl, rfl, by decide +kernel, rfl, by decide +kernel, by decide +kernel⟩
theorem sc_bounds_in : FnScope ["bits", "step", "first"] ["bits"] (defScope s_bounds_in) := ⟨rfl, rfl, rfl, by decide +kernel, rfl, by decide +kernel, by decide +kernel⟩
theorem sc_fields_of : FnScope ["word", "bits", "low", "high"] ["word"] (defScope s_fields_of) := ⟨rfl, rfl, rfl, by decide +kernel, rfl, by decide +kernel, by decide +kernel⟩
theorem sc_is_rights : FnScope ["thing", "sign"] ["thing"] (defScope s_is_rights) := ⟨rfl, rfl, rfl, by decide +kernel, rfl, by decide +kernel, by decide +kernel⟩
theorem sc__are_fields : FnScope ["thing", "low", "high", "at", "rights", "kind"] ["thing"] (defScope s__are_fields) := ⟨rfl, rfl, rfl, by decide +kernel, rfl, by decide +kernel, by decide +kernel⟩
theorem sc_word_of : FnScope ["fields", "marked", "low", "high", "at", "rights", "kind", "step", "first", "count", "places", "worths", "place", "worth"] ["fields", "marked"] (defScope s_word_of) := ⟨rfl, rfl, rfl, by decide +kernel, rfl, by decide +kernel, by decide +kernel⟩
theorem sc_is_word : FnScope ["thing", "marked", "bits"] ["thing"] (defScope s_is_word) := ⟨rfl, rfl, rfl, by decide +kernel, rfl, by decide +kernel, by decide +kernel⟩
theorem sc__may_be_marked : FnScope ["bits"] ["bits"] (defScope s__may_be_marked) := ⟨rfl, rfl, rfl, by decide +kernel, rfl, by decide +kernel, by decide +kernel⟩
theorem sc_is_lawful : FnScope ["thing", "marked", "bits"] ["thing"] (defScope s_is_lawful) := ⟨rfl, rfl, rfl, by decide +kernel, rfl, by decide +kernel, by decide +kernel⟩
theorem sc_shown_word : FnScope ["word", "marked", "bits", "low", "high", "at", "rights", "kind"] ["word"] (defScope s_shown_word) := ⟨rfl, rfl, rfl, by decide +kernel, rfl, by decide +kernel, by decide +kernel⟩
theorem sc__marked_word_in : FnScope ["text", "bounds", "_", "rest", "low", "high", "at", "rights", "kind", "fields", "word"] ["text"] (defScope s__marked_word_in) := ⟨rfl, rfl, rfl, by decide +kernel, rfl, by decide +kernel, by decide +kernel⟩
theorem sc_read_word : FnScope ["text", "word"] ["text"] (defScope s_read_word) := ⟨rfl, rfl, rfl, by decide +kernel, rfl, by decide +kernel, by decide +kernel⟩
theorem sc__law_take : FnScope ["_law_pool_here", "_law_many", "_law_found"] ["_law_pool_here", "_law_many"] (defScope s__law_take) := ⟨rfl, rfl, rfl, by decide +kernel, rfl, by decide +kernel, by decide +kernel⟩
theorem sc__law_pool : FnScope ["_law_script", "_law_k", "_law_cell", "_law_great", "_law_mixed"] ["_law_script", "_law_k"] (defScope s__law_pool) := ⟨rfl, rfl, rfl, by decide +kernel, rfl, by decide +kernel, by decide +kernel⟩
theorem sc__law_bits : FnScope ["_law_at", "_law_first", "_law_count", "_law_step", "_law_rights", "_law_kind"] ["_law_at", "_law_first", "_law_count", "_law_step", "_law_rights", "_law_kind"] (defScope s__law_bits) := ⟨rfl, rfl, rfl, by decide +kernel, rfl, by decide +kernel, by decide +kernel⟩
theorem sc__law_mask : FnScope ["_law_pool_here", "_law_far", "_law_some"] ["_law_pool_here"] (defScope s__law_mask) := ⟨rfl, rfl, rfl, by decide +kernel, rfl, by decide +kernel, by decide +kernel⟩
theorem sc__law_drawn : FnScope ["_law_pool_here", "_law_step", "_law_count", "_law_wide", "_law_first", "_law_kind", "_law_at"] ["_law_pool_here"] (defScope s__law_drawn) := ⟨rfl, rfl, rfl, by decide +kernel, rfl, by decide +kernel, by decide +kernel⟩
theorem sc__law_fields : FnScope ["_law_bits_here", "_law_first", "_law_count", "_law_step", "_law_at", "_law_sign", "_law_rights"] ["_law_bits_here"] (defScope s__law_fields) := ⟨rfl, rfl, rfl, by decide +kernel, rfl, by decide +kernel, by decide +kernel⟩
theorem sc__law_good : FnScope ["_law_rights", "_law_sign", "_law_some", "_law_groups"] ["_law_rights"] (defScope s__law_good) := ⟨rfl, rfl, rfl, by decide +kernel, rfl, by decide +kernel, by decide +kernel⟩
theorem sc__law_text : FnScope ["_law_own", "_law_low", "_law_high", "_law_at", "_law_rights", "_law_kind"] ["_law_own"] (defScope s__law_text) := ⟨rfl, rfl, rfl, by decide +kernel, rfl, by decide +kernel, by decide +kernel⟩
theorem sc__law_figures : FnScope ["_law_here", "_law_sign"] ["_law_here"] (defScope s__law_figures) := ⟨rfl, rfl, rfl, by decide +kernel, rfl, by decide +kernel, by decide +kernel⟩
theorem sc__law_exact : FnScope ["_law_low", "_law_high", "_law_step", "_law_count"] ["_law_low", "_law_high"] (defScope s__law_exact) := ⟨rfl, rfl, rfl, by decide +kernel, rfl, by decide +kernel, by decide +kernel⟩
theorem sc__law_due : FnScope ["_law_here", "_law_parts", "_law_sign", "_law_ahead", "_law_one", "_law_low", "_law_high", "_law_at", "_law_kind", "_law_rights"] ["_law_here"] (defScope s__law_due) := ⟨rfl, rfl, rfl, by decide +kernel, rfl, by decide +kernel, by decide +kernel⟩
theorem sc__law_told : FnScope ["_law_here", "_law_found", "e"] ["_law_here"] (defScope s__law_told) := ⟨rfl, rfl, rfl, by decide +kernel, rfl, by decide +kernel, by decide +kernel⟩
theorem sc__law_bent : FnScope ["_law_pool_here", "_law_here", "_law_at", "_law_some"] ["_law_pool_here", "_law_here"] (defScope s__law_bent) := ⟨rfl, rfl, rfl, by decide +kernel, rfl, by decide +kernel, by decide +kernel⟩
theorem sc_law : FnScope ["_law_script", "_law_k", "_law_pool_here", "_law_bits_here", "_law_own", "_law_here", "_law_one", "_law_thing", "_law_due_here", "_law_some"] ["_law_script"] (defScope s_law) := ⟨rfl, rfl, rfl, by decide +kernel, rfl, by decide +kernel, by decide +kernel⟩
abbrev si_NoFields : Stmt := inClass (topS 2) 0
theorem sci_NoFields : FnScope ["self", "text"] ["self", "text"] (defScope si_NoFields) := ⟨rfl, rfl, rfl, by decide +kernel, rfl, by decide +kernel, by decide +kernel⟩
abbrev si_NoText : Stmt := inClass (topS 5) 0
theorem sci_NoText : FnScope ["self", "number"] ["self", "number"] (defScope si_NoText) := ⟨rfl, rfl, rfl, by decide +kernel, rfl, by decide +kernel, by decide +kernel⟩
structure Txt (K : PySem.W.Frag) (w : World) (mg : Str → Option Value) : Prop where
  z_ValueError : mg "ValueError" = none
  z_abs : mg "abs" = none
  z_any : mg "any" = none
  z_bool : mg "bool" = none
  z_enumerate : mg "enumerate" = none
  z_int : mg "int" = none
  z_isinstance : mg "isinstance" = none
  z_len : mg "len" = none
  z_list : mg "list" = none
  z_max : mg "max" = none
  z_min : mg "min" = none
  z_range : mg "range" = none
  z_repr : mg "repr" = none
  z_str : mg "str" = none
  z_sum : mg "sum" = none
  z_tuple : mg "tuple" = none
  z_zip : mg "zip" = none
  c_AT : ∃ p, mg "AT" = some (.ref p) ∧ ∀ H, SqT K H p [.int 0, .int 12]
  c_CELLS : ∃ t, mg "CELLS" = some (.int 4096 t)
  c_COUNT_LESS_ONE : ∃ p, mg "COUNT_LESS_ONE" = some (.ref p) ∧ ∀ H, SqT K H p [.int 24, .int 4]
  c_FIRST : ∃ p, mg "FIRST" = some (.ref p) ∧ ∀ H, SqT K H p [.int 12, .int 12]
  c_GROUPS : ∃ p, mg "GROUPS" = some (.ref p) ∧ ∀ H, SqT K H p [.str (Str.ofString "rwlsn"), .str (Str.ofString "x"), .str (Str.ofString "co")]
  c_KIND : ∃ p, mg "KIND" = some (.ref p) ∧ ∀ H, SqT K H p [.int 41, .int 4]
  c_LEAST_COUNT : ∃ t, mg "LEAST_COUNT" = some (.int 9 t)
  c_MOST_FIGURES : ∃ t, mg "MOST_FIGURES" = some (.int 30 t)
  c_RIGHTS : ∃ t, mg "RIGHTS" = some (.str (Str.ofString "rwlsnfxco") t)
  c_RIGHTS_BITS : ∃ p, mg "RIGHTS_BITS" = some (.ref p) ∧ ∀ H, SqT K H p [.int 32, .int 9]
  c_STEP : ∃ p, mg "STEP" = some (.ref p) ∧ ∀ H, SqT K H p [.int 28, .int 4]
  c_TOP_COUNT : ∃ t, mg "TOP_COUNT" = some (.int 16 t)
  c_TOP_KIND : ∃ t, mg "TOP_KIND" = some (.int 15 t)
  c_TOP_STEP : ∃ t, mg "TOP_STEP" = some (.int 8 t)
  c_WORTHS : ∃ t, mg "WORTHS" = some (.int 35184372088832 t)
  k_NoFields : ∃ C, mg "NoFields" = some (.ref C) ∧ PySem.W.nsIn K mainGlobals "NoFields" = some (some (.ref C))
  k_NoRows : ∃ C, mg "NoRows" = some (.ref C) ∧ PySem.W.nsIn K mainGlobals "NoRows" = some (some (.ref C))
  k_NoText : ∃ C, mg "NoText" = some (.ref C) ∧ PySem.W.nsIn K mainGlobals "NoText" = some (some (.ref C))
  x_NoFields_NoFields : ∀ C D, PySem.W.nsIn K mainGlobals "NoFields" = some (some (.ref C)) → PySem.W.nsIn K mainGlobals "NoFields" = some (some (.ref D)) → PySem.W.exmOne K (.ref C) (.ref D) = some true
  x_NoText_NoText : ∀ C D, PySem.W.nsIn K mainGlobals "NoText" = some (some (.ref C)) → PySem.W.nsIn K mainGlobals "NoText" = some (some (.ref D)) → PySem.W.exmOne K (.ref C) (.ref D) = some true
  e_NoText : ∀ C, PySem.W.nsIn K mainGlobals "NoText" = some (some (.ref C)) → ErrC K C
  i_NoText_NoRows : ∀ C D, PySem.W.nsIn K mainGlobals "NoText" = some (some (.ref C)) → PySem.W.nsIn K mainGlobals "NoRows" = some (some (.ref D)) → PySem.W.kitOne K (.ref C) (.ref D) = some false
  i_NoText_ValueError : ∀ C, PySem.W.nsIn K mainGlobals "NoText" = some (some (.ref C)) → PySem.W.kitOne K (.ref C) (.type "ValueError") = some true
  f_NoText_number : ∀ C, PySem.W.nsIn K mainGlobals "NoText" = some (some (.ref C)) → PySem.W.findIn K (.ref C) "number" = some none
section
variable {P : Program} {w : World} {K : PySem.W.Frag} {mg : Str → Option Value} {base : Heap}
theorem oki_NoFields {f C : Addr} {fd : FuncData} (F : Fun K "__init__" "NoFields.__init__" si_NoFields f fd) (T : OexC K C) (hno : PySem.W.findIn K (.ref C) "text" = some none) : FnOk P w K mg base CX0 1 f fd ["self", "text"] (spErr C "text") := by
  refine F.ok sci_NoFields (fun vs H Q E h => ?_) (fun cdv A outer s H vs Q E hr h => ?_)
  · obtain ⟨a, v, rfl, h1, q⟩ := h; rfl
  · obtain ⟨a, v, rfl, h1, q⟩ := h
    refine ⟨_, pss_one (ps_ost (pv 0) (pv 1)), ?_⟩
    exact ⟨_, rfl, _, rfl, a, C, rfl, T, hno, .inl ⟨h1, fun dx h2 h3 => q dx h2 h3⟩⟩
theorem oki_NoText {f C : Addr} {fd : FuncData} (F : Fun K "__init__" "NoText.__init__" si_NoText f fd) (T : OexC K C) (hno : PySem.W.findIn K (.ref C) "number" = some none) : FnOk P w K mg base CX0 1 f fd ["self", "number"] (spErr C "number") := by
  refine F.ok sci_NoText (fun vs H Q E h => ?_) (fun cdv A outer s H vs Q E hr h => ?_)
  · obtain ⟨a, v, rfl, h1, q⟩ := h; rfl
  · obtain ⟨a, v, rfl, h1, q⟩ := h
    refine ⟨_, pss_one (ps_ost (pv 0) (pv 1)), ?_⟩
    exact ⟨_, rfl, _, rfl, a, C, rfl, T, hno, .inl ⟨h1, fun dx h2 h3 => q dx h2 h3⟩⟩

def sp_whole_in (K : PySem.W.Frag) : Sp := fun vs H Q _ => ∃ z, vs = [.str (SX.S z)] ∧ z.length ≤ 1000000 ∧ Q (vW z) H
theorem ok_whole_in {f : Addr} {fd : FuncData} (F : Fun K "whole_in" "whole_in" s_whole_in f fd) (T : Txt K w mg) : FnOk P w K mg base CX0 1 f fd ["text"] (sp_whole_in K) := by
  obtain ⟨t_MOST_FIGURES, hc_MOST_FIGURES⟩ := T.c_MOST_FIGURES
  refine F.ok sc_whole_in (fun vs H Q E h => ?_) (fun cdv A outer s H vs Q E hr h => ?_)
  · obtain ⟨z, rfl, hz, q0⟩ := h; rfl
  · obtain ⟨z, rfl, hz, q0⟩ := h
    refine ⟨_, (pss_cons (ps_set (i := 1) sc_whole_in.nd rfl (.inl rfl) (pe_bm PySem.F.plainAttrs_str PySem.F.slot_str_removeprefix PySem.F.type_str_removeprefix mt_removeprefix (pv 0) (pa_cons pe_str pa_nil)))
      (pss_cons (ps_if (PW.pt (pw_or (pt_not (pt_val (pe_bm0 PySem.F.plainAttrs_str PySem.F.slot_str_isascii PySem.F.type_str_isascii mt_isascii (pv 1)))) (pw_or (pt_not (pt_val (pe_bm0 PySem.F.plainAttrs_str PySem.F.slot_str_isdigit PySem.F.type_str_isdigit mt_isdigit (pv 1)))) (pw_or1 (pt_cmpR op_gt (pe_callB call_len_str (by rfl) T.z_len (by decide +kernel) (pa_cons (pv 1) pa_nil)) (pe_glob (v := .int 30) (by rfl) hc_MOST_FIGURES ⟨_, rfl⟩) (nomark _)))))) (pss_one (ps_ret pe_non)) pss_nil)
      (pss_cons (ps_if (PW.pt (pw_and (pt_cmpR op_eq (pe_ix (r := rIxS) ix_str (pv 1) pe_int (fun _ _ => rfl)) pe_str (nomark _)) (pw_and1 (pt_cmpR op_ne (pv 0) pe_str (nomark _))))) (pss_one (ps_ret pe_non)) pss_nil)
      (pss_one (ps_ret (pe_callTy call_int_str (by rfl) T.z_int (by decide +kernel) (pa_cons (pv 0) pa_nil))))))), ?_⟩
    have q : ∀ v, Dx H v (wholeIn z) → Q v H := fun v hv => by rw [dx_vW hv]; exact q0
    have lz : (SX.S z).length ≤ sizeLine := by rw [SX.S_len, sizeLine_eq]; omega
    have no : wholeOk z = false → Q .non H := fun e => q _ (by rw [whole_false e]; exact .non)
    refine ⟨_, rfl, rfl, _, _, rfl, rfl, lz, ?_⟩
    rw [show Txt.removeprefix (SX.S z) (Str.ofString "-") = SX.S (figs z) from rem_S z]
    refine ⟨_, rfl, rfl, _, rfl, rfl, trivial, _, rfl, ifnb (fun c => ?_) (fun c => ?_)⟩
    · exact no (whole_asc c)
    refine ⟨_, rfl, rfl, _, rfl, rfl, trivial, _, rfl, ifnb (fun d => ?_) (fun d => ?_)⟩
    · exact no (whole_dig0 c d)
    have lf : (SX.S (figs z)).length ≤ sizeLine := by rw [SX.S_len, sizeLine_eq]; have := (figs_len z).1; omega
    refine ⟨_, rfl, _, rfl, lf, _, _, rfl, rfl, _, rfl, ifd (fun l => ?_) (fun l => ?_)⟩
    · refine no (whole_long ?_)
      rw [SX.S_len] at l
      omega
    obtain ⟨⟨c0, r0, e0⟩, h0⟩ := whole_dig1 c d (by rw [SX.S_len] at l; omega)
    have a0 : atI (SX.S (figs z)).cps.toList 0 = some c0 := by
      show atI (figs z) 0 = some c0
      rw [e0]; exact atI_nat (j := 0) rfl
    have fin : wholeOk z = true → intText? (SX.S z) = some (wholeV z) ∧ (SX.S z).length ≤ 640 ∧ Q (.int (wholeV z)) H := fun e => ⟨whole_int e, by rw [SX.S_len]; have := whole_len e; omega, q _ (by rw [show wholeIn z = .int (wholeV z) from if_pos e]; exact .int _)⟩
    refine ⟨_, rfl, _, _, c0, rfl, rfl, lf, a0, rfl, _, rfl, ifd (fun z0 => ?_) (fun z0 => ?_)⟩
    · have z1 : c0 = 48 := one_inj (V.str.inj z0)
      refine ⟨_, rfl, rfl, _, rfl, ifnd (fun z2 => ?_) (fun z2 => ?_)⟩
      · refine no (h0.mpr ⟨by rw [e0, z1]; rfl, fun z3 => z2 ?_⟩)
        rw [z3]; exact congrArg V.str zero_S.symm
      · have ok : wholeOk z = true := by
          cases e : wholeOk z with
          | true => rfl
          | false => exact absurd (SX.S_inj ((V.str.inj z2).trans zero_S)) (h0.mp e).2
        obtain ⟨f1, f2, f3⟩ := fin ok
        exact ⟨_, rfl, _, _, rfl, f1, f2, f3⟩
    · have ok : wholeOk z = true := by
        cases e : wholeOk z with
        | true => rfl
        | false =>
          have := (h0.mp e).1
          rw [e0] at this
          exact absurd (congrArg (fun n => V.str (one n)) (Option.some.inj this)) z0
      obtain ⟨f1, f2, f3⟩ := fin ok
      exact ⟨_, rfl, _, _, rfl, f1, f2, f3⟩

def sp_is_whole (K : PySem.W.Frag) : Sp := fun vs H Q _ => ∃ v l m, vs = [v, .int l, .int m] ∧ Kd H v ∧ ∀ b, (b = true ↔ ∃ n, v = .int n ∧ l ≤ n ∧ n ≤ m) → Q (.bl b) H
theorem ok_is_whole {f : Addr} {fd : FuncData} (F : Fun K "is_whole" "is_whole" s_is_whole f fd) (T : Txt K w mg) : FnOk P w K mg base CX0 1 f fd ["thing", "least", "most"] (sp_is_whole K) := by
  refine F.ok sc_is_whole (fun vs H Q E h => ?_) (fun cdv A outer s H vs Q E hr h => ?_)
  · obtain ⟨v, l, m, rfl, hv, q⟩ := h; rfl
  · obtain ⟨v, l, m, rfl, hv, q⟩ := h
    refine ⟨_, (pss_one (ps_ret (pe_and (pe_callB call_isi (by rfl) T.z_isinstance (by decide +kernel) (pa_cons (pv 0) (pa_cons (pe_bltn (v := .ty "int") (by rfl) T.z_int (by decide +kernel) rfl) pa_nil))) (pe_and (pe_not (pe_callB call_isi (by rfl) T.z_isinstance (by decide +kernel) (pa_cons (pv 0) (pa_cons (pe_bltn (v := .ty "bool") (by rfl) T.z_bool (by decide +kernel) rfl) pa_nil)))) (pe_one (pe_chain op_le op_le (pv 1) (pv 0) (pv 2))))))), ?_⟩
    obtain ⟨t, ty, kt⟩ := hv.int? (K := K)
    refine ⟨_, rfl, _, _, t, _, isI v, rfl, .ty "int", ty, kt, isI v, rfl, ifb (fun e1 => ?_) (fun e1 => ?_)⟩
    · obtain ⟨t2, ty2, kt2⟩ := hv.bool? (K := K)
      refine ⟨_, rfl, _, _, t2, _, isB v, rfl, .ty "bool", ty2, kt2, isB v, rfl, !isB v, rfl, ifnb (fun e2 => ?_) (fun e2 => ?_)⟩
      · obtain ⟨n, rfl⟩ : ∃ n, v = .int n := by
          cases hv with
          | int i => exact ⟨i, rfl⟩
          | bl b => cases e2
          | _ => cases e1
        refine ⟨_, rfl, _, rfl, _, _, rfl, rfl, _, rfl, ifd (fun h1 => ?_) (fun h1 => ?_)⟩
        · refine ⟨_, rfl, _, _, rfl, rfl, q _ ?_⟩
          rw [decide_eq_true_iff]
          exact ⟨fun h => ⟨n, rfl, h1, h⟩, fun ⟨n', e, h3, h4⟩ => by cases e; exact h4⟩
        · refine q _ ⟨fun h => Bool.noConfusion h, fun ⟨n', e, h3, h4⟩ => by cases e; exact absurd h3 h1⟩
      · refine q _ ⟨fun h => Bool.noConfusion h, fun ⟨n', e, h3, h4⟩ => by cases e; cases e2⟩
    · refine q _ ⟨fun h => Bool.noConfusion h, fun ⟨n', e, h3, h4⟩ => by cases e; cases e1⟩

def sp_are_bounds (K : PySem.W.Frag) : Sp := fun vs H Q _ => ∃ v u, vs = [v, u] ∧ Kd H v ∧ Kd H u ∧ ∀ b, (b = true ↔ ∃ lo hi, v = .int lo ∧ u = .int hi ∧ Bd lo hi) → Q (.bl b) H
theorem ok_are_bounds {f : Addr} {fd : FuncData} (F : Fun K "are_bounds" "are_bounds" s_are_bounds f fd) (T : Txt K w mg) (C_is_whole : Cal P w K mg base "is_whole" 1 ["thing", "least", "most"] (sp_is_whole K)) : FnOk P w K mg base CX0 2 f fd ["low", "high"] (sp_are_bounds K) := by
  obtain ⟨t_CELLS, hc_CELLS⟩ := T.c_CELLS
  refine F.ok sc_are_bounds (fun vs H Q E h => ?_) (fun cdv A outer s H vs Q E hr h => ?_)
  · obtain ⟨v, u, rfl, hv, hu, q⟩ := h; rfl
  · obtain ⟨v, u, rfl, hv, hu, q⟩ := h
    refine ⟨_, (pss_one (ps_ret (pe_and (pe_cal C_is_whole (hr.mono (by decide)) (pa_cons (pv 0) (pa_cons pe_int (pa_cons (pe_glob (v := .int 4096) (by rfl) hc_CELLS ⟨_, rfl⟩) pa_nil)))) (pe_and (pe_cal C_is_whole (hr.mono (by decide)) (pa_cons (pv 1) (pa_cons pe_int (pa_cons (pe_glob (v := .int 4096) (by rfl) hc_CELLS ⟨_, rfl⟩) pa_nil)))) (pe_one (pe_cmpR op_lt (pv 0) (pv 1) (nomark _))))))), ?_⟩
    refine ⟨_, rfl, _, _, _, rfl, hv, fun b hb => ⟨_, rfl, ifb (fun e => ?_) (fun e => ?_)⟩⟩
    · refine ⟨_, rfl, _, _, _, rfl, hu, fun c hc => ⟨_, rfl, ifb (fun e2 => ?_) (fun e2 => ?_)⟩⟩
      · obtain ⟨lo, rfl, l1, l2⟩ := hb.mp e
        obtain ⟨hi, rfl, l3, l4⟩ := hc.mp e2
        refine ⟨_, rfl, _, rfl, _, _, rfl, rfl, q _ ?_⟩
        rw [decide_eq_true_iff]
        exact ⟨fun h => ⟨lo, hi, rfl, rfl, l1, h, l4⟩, fun ⟨a, c, e3, e4, h⟩ => by cases e3; cases e4; exact h.2.1⟩
      · refine q _ ⟨fun h => Bool.noConfusion h, fun ⟨a, c, e3, e4, h⟩ => ?_⟩
        obtain ⟨h1, h2, h3⟩ := h
        rw [hc.mpr ⟨c, e4, by omega, h3⟩] at e2; cases e2
    · refine q _ ⟨fun h => Bool.noConfusion h, fun ⟨a, c, e3, e4, h⟩ => ?_⟩
      obtain ⟨h1, h2, h3⟩ := h
      rw [hb.mpr ⟨a, e3, h1, by omega⟩] at e; cases e

def sp_look_at_bounds (K : PySem.W.Frag) : Sp := fun vs H Q _ => ∃ lo hi, vs = [.int lo, .int hi] ∧ Bd lo hi ∧ Q .non H
theorem ok_look_at_bounds {f : Addr} {fd : FuncData} (F : Fun K "look_at_bounds" "look_at_bounds" s_look_at_bounds f fd) (T : Txt K w mg) (C_are_bounds : Cal P w K mg base "are_bounds" 2 ["low", "high"] (sp_are_bounds K)) : FnOk P w K mg base CX0 3 f fd ["low", "high"] (sp_look_at_bounds K) := by
  refine F.ok sc_look_at_bounds (fun vs H Q E h => ?_) (fun cdv A outer s H vs Q E hr h => ?_)
  · obtain ⟨lo, hi, rfl, hb, q⟩ := h; rfl
  · obtain ⟨lo, hi, rfl, hb, q⟩ := h
    refine ⟨_, (pss_one (ps_if (pt_not (pt_val (pe_cal C_are_bounds (hr.mono (by decide)) (pa_cons (pv 0) (pa_cons (pv 1) pa_nil))))) (pss_one ps_never) pss_nil)), ?_⟩
    refine ⟨_, rfl, _, rfl, .int lo, .int hi, rfl, .int _, .int _, fun b hb2 => ⟨_, rfl, ?_⟩⟩
    have e : b = true := hb2.mpr ⟨lo, hi, rfl, rfl, hb⟩
    subst e
    exact q

def sp__steps_over (K : PySem.W.Frag) : Sp := fun vs H Q _ => ∃ (lo hi : Int) (s : Nat), vs = [.int lo, .int hi, .int s] ∧ s ≤ 1000 ∧ Q (.int (Dd lo hi s + 1)) H
theorem ok__steps_over {f : Addr} {fd : FuncData} (F : Fun K "_steps_over" "_steps_over" s__steps_over f fd) (T : Txt K w mg) : FnOk P w K mg base CX0 1 f fd ["low", "high", "step"] (sp__steps_over K) := by
  refine F.ok sc__steps_over (fun vs H Q E h => ?_) (fun cdv A outer s H vs Q E hr h => ?_)
  · obtain ⟨lo, hi, s, rfl, hs, q⟩ := h; rfl
  · obtain ⟨lo, hi, s, rfl, hs, q⟩ := h
    refine ⟨_, (pss_cons (ps_set (i := 3) sc__steps_over.nd rfl (.inl rfl) (pe_op op_shr (pv 0) (pv 2)))
      (pss_cons (ps_set (i := 4) sc__steps_over.nd rfl (.inl rfl) (pe_op op_shr (pe_op op_sub (pe_op op_add (pv 1) (pe_op op_shl pe_int (pv 2))) pe_int) (pv 2)))
      (pss_one (ps_ret (pe_op op_sub (pv 4) (pv 3)))))), ?_⟩
    walk_at "g"
    rw [← over_eq] at q
    exact q

def sp_in_bits (K : PySem.W.Frag) : Sp := fun vs H Q _ => ∃ lo hi, vs = [.int lo, .int hi] ∧ Bd lo hi ∧ ∀ (s : Nat) p, StepIs lo hi s → H p = none → Q (.ref p) (upd H p (.tup [.int s, .int (lo / 2 ^ s), .int (Dd lo hi s + 1)]))
theorem ok_in_bits {f : Addr} {fd : FuncData} (F : Fun K "in_bits" "in_bits" s_in_bits f fd) (T : Txt K w mg) (C_look_at_bounds : Cal P w K mg base "look_at_bounds" 3 ["low", "high"] (sp_look_at_bounds K)) (C__steps_over : Cal P w K mg base "_steps_over" 1 ["low", "high", "step"] (sp__steps_over K)) : FnOk P w K mg base CX0 4 f fd ["low", "high"] (sp_in_bits K) := by
  obtain ⟨t_TOP_COUNT, hc_TOP_COUNT⟩ := T.c_TOP_COUNT
  refine F.ok sc_in_bits (fun vs H Q E h => ?_) (fun cdv A outer s H vs Q E hr h => ?_)
  · obtain ⟨lo, hi, rfl, hb, q⟩ := h; rfl
  · obtain ⟨lo, hi, rfl, hb, q⟩ := h
    refine ⟨_, (pss_cons (ps_expr (pe_cal C_look_at_bounds (hr.mono (by decide)) (pa_cons (pv 0) (pa_cons (pv 1) pa_nil))))
      (pss_cons (ps_set (i := 2) sc_in_bits.nd rfl (.inl rfl) pe_int)
      (pss_cons (ps_while PassesOwn.never (pt_cmpR op_gt (pe_cal C__steps_over (hr.mono (by decide)) (pa_cons (pv 0) (pa_cons (pv 1) (pa_cons (pv 2) pa_nil)))) (pe_glob (v := .int 16) (by rfl) hc_TOP_COUNT ⟨_, rfl⟩) (nomark _)) (pss_one (ps_aug (i := 2) sc_in_bits.nd rfl (.inl rfl) pe_int ip_add)))
      (pss_one (ps_ret (pe_tup (pa_cons (pv 2) (pa_cons (pe_op op_shr (pv 0) (pv 2)) (pa_cons (pe_cal C__steps_over (hr.mono (by decide)) (pa_cons (pv 0) (pa_cons (pv 1) (pa_cons (pv 2) pa_nil)))) pa_nil))))))))), ?_⟩
    refine ⟨_, rfl, _, rfl, lo, hi, rfl, hb, ?_⟩
    refine ⟨fun m σ H' => ∃ s : Nat, σ = [some (.int lo), some (.int hi), some (.int s)] ∧ H' = H ∧ s ≤ 8 ∧ m = 8 - s ∧ ∀ t, t < s → 15 < Dd lo hi t, ⟨8, 0, rfl, rfl, by omega, rfl, fun t ht => by omega⟩, ?_⟩
    rintro m σ H' ⟨s, rfl, rfl, h8, em, hbl⟩
    refine ⟨_, rfl, _, rfl, _, rfl, lo, hi, s, rfl, by omega, ?_⟩
    refine ⟨_, _, rfl, rfl, _, rfl, ifd (fun c => ?_) (fun c => ?_)⟩
    · have l8 := lt8 hb (by omega) h8
      refine ⟨_, fun _ _ h => h, ?_⟩
      refine ⟨_, rfl, _, _, rfl, rfl, 8 - (s + 1), by omega, s + 1, rfl, rfl, by omega, rfl, fun t ht => ?_⟩
      rcases Nat.lt_or_ge t s with d | d
      · exact hbl t d
      · have : t = s := by omega
        subst this; omega
    · refine ⟨_, rfl, _, rfl, _, rfl, _, _, rfl, rfl, by omega, ?_⟩
      refine ⟨_, rfl, _, rfl, _, rfl, lo, hi, s, rfl, by omega, ?_⟩
      refine ⟨sz (by simp), fun p hp => ?_⟩
      exact q s p ⟨h8, by omega, hbl⟩ hp

def sp_least_bounds (K : PySem.W.Frag) : Sp := fun vs H Q _ => ∃ lo hi, vs = [.int lo, .int hi] ∧ Bd lo hi ∧ ∀ (s : Nat) p H', StepIs lo hi s → Same H H' → H p = none → H' p = some (.tup [.int (lo / 2 ^ s * 2 ^ s), .int (((hi - 1) / 2 ^ s + 1) * 2 ^ s)]) → Q (.ref p) H'
theorem ok_least_bounds {f : Addr} {fd : FuncData} (F : Fun K "least_bounds" "least_bounds" s_least_bounds f fd) (T : Txt K w mg) (C_in_bits : Cal P w K mg base "in_bits" 4 ["low", "high"] (sp_in_bits K)) : FnOk P w K mg base CX0 5 f fd ["low", "high"] (sp_least_bounds K) := by
  refine F.ok sc_least_bounds (fun vs H Q E h => ?_) (fun cdv A outer s H vs Q E hr h => ?_)
  · obtain ⟨lo, hi, rfl, hb, q⟩ := h; rfl
  · obtain ⟨lo, hi, rfl, hb, q⟩ := h
    refine ⟨_, (pss_cons (ps_asg (pe_cal C_in_bits (hr.mono (by decide)) (pa_cons (pv 0) (pa_cons (pv 1) pa_nil))) (pg_tup rfl (pgs_cons (pg_name (i := 2) sc_least_bounds.nd rfl (.inl rfl)) (pgs_cons (pg_name (i := 3) sc_least_bounds.nd rfl (.inl rfl)) (pgs_cons (pg_name (i := 4) sc_least_bounds.nd rfl (.inl rfl)) pgs_nil)))))
      (pss_one (ps_ret (pe_tup (pa_cons (pe_op op_shl (pv 3) (pv 2)) (pa_cons (pe_op op_shl (pe_op op_add (pv 3) (pv 4)) (pv 2)) pa_nil)))))), ?_⟩
    refine ⟨_, rfl, _, rfl, lo, hi, rfl, hb, fun s p hs hp => ?_⟩
    refine ⟨p, _, rfl, .of upd_same, rfl, _, _, rfl, _, _, rfl, _, _, rfl, rfl, ?_⟩
    have h8 := hs.1
    refine ⟨_, rfl, _, rfl, _, _, rfl, rfl, bc hb h8, ?_⟩
    refine ⟨_, rfl, _, rfl, _, _, rfl, rfl, _, rfl, _, _, rfl, rfl, bc2 hb hs, sz (by simp), fun p2 hp2 => ?_⟩
    have n : p ≠ p2 := ne_of_none upd_same hp2
    refine q s p2 _ hs (sameN (same_new hp) hp2) ?_ ?_
    · exact Same.free (same_new hp) hp2
    · rw [upd_same, first_over]; rfl

def sp_is_exact (K : PySem.W.Frag) : Sp := fun vs H Q _ => ∃ lo hi, vs = [.int lo, .int hi] ∧ Bd lo hi ∧ ∀ b H', Same H H' → (b = true ↔ ∃ s, Ex lo hi s) → Q (.bl b) H'
theorem ok_is_exact {f : Addr} {fd : FuncData} (F : Fun K "is_exact" "is_exact" s_is_exact f fd) (T : Txt K w mg) (C_least_bounds : Cal P w K mg base "least_bounds" 5 ["low", "high"] (sp_least_bounds K)) : FnOk P w K mg base CX0 6 f fd ["low", "high"] (sp_is_exact K) := by
  refine F.ok sc_is_exact (fun vs H Q E h => ?_) (fun cdv A outer s H vs Q E hr h => ?_)
  · obtain ⟨lo, hi, rfl, hb, q⟩ := h; rfl
  · obtain ⟨lo, hi, rfl, hb, q⟩ := h
    refine ⟨_, (pss_one (ps_ret (pe_cmpR (r := rEqD K) (op_eqD hr.units) (pe_cal C_least_bounds (hr.mono (by decide)) (pa_cons (pv 0) (pa_cons (pv 1) pa_nil))) (pe_tup (pa_cons (pv 0) (pa_cons (pv 1) pa_nil))) (nomark _)))), ?_⟩
    refine ⟨_, rfl, _, rfl, lo, hi, rfl, hb, fun s p H1 hs sm hp hp1 => ?_⟩
    refine ⟨_, rfl, _, rfl, sz (by simp), fun p2 hp2 => ?_⟩
    have n : p ≠ p2 := ne_of_none hp1 hp2
    refine ⟨_, _, dp2 (by walk_at "at"), dp2 upd_same, rfl, rfl, ?_⟩
    refine q _ _ (sameN sm hp2) ?_
    rw [t2_eqv]
    constructor
    · intro e; exact ⟨s, hs, e.1, e.2⟩
    · rintro ⟨t, ht, e1, e2⟩
      have : t = s := ht.uniq hs
      subst this
      exact ⟨e1, e2⟩

def sp__has_some (K : PySem.W.Frag) : Sp := fun vs H Q _ => ∃ r g : Str, vs = [.str r, .str g] ∧ g.cps.size ≤ 9 ∧ ∀ H', Same H H' → Q (.bl (hasG r g)) H'
theorem ok__has_some {f : Addr} {fd : FuncData} (F : Fun K "_has_some" "_has_some" s__has_some f fd) (T : Txt K w mg) : FnOk P w K mg base CX0 1 f fd ["rights", "group"] (sp__has_some K) := by
  refine F.ok sc__has_some (fun vs H Q E h => ?_) (fun cdv A outer s H vs Q E hr h => ?_)
  · obtain ⟨r, g, rfl, hg, q⟩ := h; rfl
  · obtain ⟨r, g, rfl, hg, q⟩ := h
    refine ⟨_, (pss_one (ps_ret (pe_callB (cr_any rfl) (by rfl) T.z_any (by decide +kernel) (pa_cons (pe_lc (own := [("sign", 2)]) rfl sc__has_some.nd (pi_str (pv 1)) (blkOk_by (own := [("sign", 2)]) (N := ["rights", "group", "sign"]) (sc := defScope s__has_some) (by decide +kernel)) (fun _ _ _ _ _ => (pg_name (i := 2) sc__has_some.nd rfl (.inl rfl))) (fun _ _ _ _ _ => pts_nil) (fun _ _ _ _ _ => (pe_cmpR op_in_sign (pv 2) (pv 0) (by rfl)))) pa_nil)))), ?_⟩
    refine ⟨_, rfl, g, rfl, fun D hD => ?_⟩
    refine lc_it (walk_str (z := g)) (fun i H' => Same H H' ∧ H' D = some (.lst (((g.cps.toList.take i).map fun c => decide (c ∈ r.cps.toList)).map V.bl))) ⟨same_new hD, upd_same⟩ (fun _ _ _ _ => trivial) ?_ ?_
    · rintro i x H1 H2 hi ⟨sm, hl⟩ ⟨rfl, c, hc, rfl⟩
      refine ⟨rfl, ?_⟩
      refine ⟨_, rfl, _, rfl, c, r, rfl, rfl, _, hl, ?_, ?_, ?_⟩
      · rw [List.length_map, List.length_map, List.length_take]; exact szn (by omega)
      · exact fun b o e => by
          have n : b ≠ D := ne_of_none e hD
          rw [upd_ne n]; exact sm b o e
      · rw [upd_same, take_any hi, List.map_append]
        have e : g.cps[i] = c := by
          have := Array.getElem?_eq_getElem hi
          rw [this] at hc
          exact Option.some.inj hc
        rw [e]; rfl
    · rintro H1 ⟨sm, hl⟩
      refine ⟨D, _, rfl, .of hl, ?_⟩
      have e : (((g.cps.toList.take g.cps.size).map fun c => decide (c ∈ r.cps.toList)).any id) = hasG r g := by
        rw [show g.cps.size = g.cps.toList.length by simp, List.take_length]
        unfold hasG
        rw [List.any_map]; rfl
      exact qb (q _ sm) e

def sp__lead_one_way (K : PySem.W.Frag) : Sp := fun vs H Q _ => ∃ r : Str, vs = [.str r] ∧ ∀ H', Same H H' → Q (.bl (decide (([G0, G1, G2].filter (hasG r)).length ≤ 1))) H'
theorem ok__lead_one_way {f : Addr} {fd : FuncData} (F : Fun K "_lead_one_way" "_lead_one_way" s__lead_one_way f fd) (T : Txt K w mg) (C__has_some : Cal P w K mg base "_has_some" 1 ["rights", "group"] (sp__has_some K)) : FnOk P w K mg base CX0 2 f fd ["rights"] (sp__lead_one_way K) := by
  obtain ⟨p_GROUPS, hc_GROUPS, hs_GROUPS⟩ := T.c_GROUPS
  refine F.ok sc__lead_one_way (fun vs H Q E h => ?_) (fun cdv A outer s H vs Q E hr h => ?_)
  · obtain ⟨r, rfl, q⟩ := h; rfl
  · obtain ⟨r, rfl, q⟩ := h
    refine ⟨_, (pss_one (ps_ret (pe_cmpR op_le (pe_callB call_len_seq (by rfl) T.z_len (by decide +kernel) (pa_cons (pe_lc (own := [("group", 1)]) rfl sc__lead_one_way.nd (pi_tup (pe_glob (v := .ref p_GROUPS) (by rfl) hc_GROUPS rfl)) (blkOk_by (own := [("group", 1)]) (N := ["rights", "group"]) (sc := defScope s__lead_one_way) (by decide +kernel)) (fun _ _ _ _ _ => (pg_name (i := 1) sc__lead_one_way.nd rfl (.inl rfl))) (fun _ _ _ _ _ => (pts_one (pt_val (pe_cal C__has_some (hr.mono (by decide)) (pa_cons (pv 0) (pa_cons (pv 1) pa_nil)))))) (fun _ _ _ _ _ => (pv 1))) pa_nil)) pe_int (nomark _)))), ?_⟩
    refine ⟨p_GROUPS, rfl, ⟨_, hs_GROUPS _⟩, fun D hD => ?_⟩
    refine lc_it (walk_tup (xs := [.str G0, .str G1, .str G2])) (fun i H' => Same H H' ∧ H' D = some (.lst ((([G0, G1, G2].take i).filter (hasG r)).map V.str))) ⟨same_new hD, upd_same⟩ (fun _ _ _ _ => hs_GROUPS _) ?_ ?_
    · rintro i x H1 H2 hi ⟨sm, hl⟩ ⟨rfl, hx⟩
      obtain ⟨g, hg, rfl⟩ : ∃ g, [G0, G1, G2][i]? = some g ∧ x = V.str g := by
        have : i = 0 ∨ i = 1 ∨ i = 2 := by simp at hi; omega
        rcases this with e | e | e <;> subst e <;> exact ⟨_, rfl, (Option.some.inj hx).symm⟩
      have hg9 : g.cps.size ≤ 9 := by
        have : i = 0 ∨ i = 1 ∨ i = 2 := by simp at hi; omega
        rcases this with e | e | e <;> subst e <;> (cases hg; decide +kernel)
      refine ⟨rfl, ?_⟩
      refine ⟨_, rfl, _, rfl, r, g, rfl, hg9, fun H3 s3 => ⟨_, rfl, ?_⟩⟩
      have tk : [G0, G1, G2].take (i + 1) = [G0, G1, G2].take i ++ [g] := by rw [List.take_add_one, hg]; rfl
      have sm3 := sm.trans s3
      refine ifb (fun e => ?_) (fun e => ?_)
      · refine ⟨_, rfl, _, s3 _ _ hl, ?_, ?_, ?_⟩
        · rw [List.length_map]
          have h1 := List.length_filter_le (hasG r) ([G0, G1, G2].take i)
          have h2 : ([G0, G1, G2].take i).length ≤ 3 := by rw [List.length_take]; exact Nat.min_le_right _ _
          exact szn (by omega)
        · exact fun b o e => by
            have n : b ≠ D := ne_of_none e hD
            rw [upd_ne n]; exact sm3 b o e
        · rw [upd_same, tk, List.filter_append, List.map_append]
          simp [e]
      · refine ⟨sm3, ?_⟩
        rw [tk, List.filter_append]
        simp [e]
        exact s3 _ _ hl
    · rintro H1 ⟨sm, hl⟩
      refine ⟨D, _, rfl, .inl (.of hl), _, _, rfl, rfl, ?_⟩
      have e : decide (((([G0, G1, G2].take 3).filter (hasG r)).map V.str).length ≤ (1 : Int)) = decide (([G0, G1, G2].filter (hasG r)).length ≤ 1) := by
        rw [List.length_map, show [G0, G1, G2].take 3 = [G0, G1, G2] from rfl]
        rw [decide_eq_decide]
        omega
      exact qb (q _ sm) e

def sp_bits_of_rights (K : PySem.W.Frag) : Sp := fun vs H Q _ => ∃ r : Str, vs = [.str r] ∧ ∀ H', Same H H' → Q (.int (maskOf r)) H'
theorem ok_bits_of_rights {f : Addr} {fd : FuncData} (F : Fun K "bits_of_rights" "bits_of_rights" s_bits_of_rights f fd) (T : Txt K w mg) : FnOk P w K mg base CX0 1 f fd ["rights"] (sp_bits_of_rights K) := by
  obtain ⟨t_RIGHTS, hc_RIGHTS⟩ := T.c_RIGHTS
  refine F.ok sc_bits_of_rights (fun vs H Q E h => ?_) (fun cdv A outer s H vs Q E hr h => ?_)
  · obtain ⟨r, rfl, q⟩ := h; rfl
  · obtain ⟨r, rfl, q⟩ := h
    refine ⟨_, (pss_one (ps_ret (pe_callB (cr_sum rfl) (by rfl) T.z_sum (by decide +kernel) (pa_cons (pe_lc (own := [("k", 1), ("sign", 2)]) (g := gTup K 2 (gCons (gName 1) (gCons (gName 2) gNil))) rfl sc_bits_of_rights.nd (pi_enumS (by rfl) T.z_enumerate (pa_cons (pe_glob (v := .str (Str.ofString "rwlsnfxco")) (by rfl) hc_RIGHTS ⟨_, rfl⟩) pa_nil)) (blkOk_by (own := [("k", 1), ("sign", 2)]) (N := ["rights", "k", "sign"]) (sc := defScope s_bits_of_rights) (by decide +kernel)) (fun _ _ _ _ _ => by exact (pg_tup rfl (pgs_cons (pg_name (i := 1) sc_bits_of_rights.nd rfl (.inl rfl)) (pgs_cons (pg_name (i := 2) sc_bits_of_rights.nd rfl (.inl rfl)) pgs_nil)))) (fun _ _ _ _ _ => (pts_one (pt_cmpR op_in_sign (pv 2) (pv 0) (by rfl)))) (fun _ _ _ _ _ => (pe_op op_shl pe_int (pv 1)))) pa_nil)))), ?_⟩
    refine ⟨RT, rfl, fun D hD => ?_⟩
    refine lc_it (walk_enumS (z := RT)) (fun i H' => Same H H' ∧ H' D = some (.lst ((mask (hasR r) i).map V.int))) ⟨same_new hD, upd_same⟩ (fun _ _ _ _ => trivial) ?_ ?_
    · rintro i x H1 H2 hi ⟨sm, hl⟩ ⟨Tp, x1, y1, rfl, hn, rfl, hx1, hy1⟩
      rw [RT_size] at hi
      have hy1 : (RT.cps[i]?).map (fun c => V.str ⟨#[c]⟩) = some y1 := hy1
      rw [RT_get i hi] at hy1
      have e1 : x1 = .int (i : Int) := (Option.some.inj hx1).symm
      have e2 : y1 = .str (one (code i)) := (Option.some.inj hy1).symm
      subst e1 e2
      have nD : D ≠ Tp := ne_of_none hl hn
      refine ⟨Tp, _, rfl, .of upd_same, rfl, _, _, rfl, _, _, rfl, rfl, wp2 (by simp) (by simp), ?_⟩
      refine ⟨_, rfl, _, rfl, code i, r, rfl, rfl, _, rfl, ifb (fun e => ?_) (fun e => ?_)⟩
      · refine ⟨_, rfl, _, _, rfl, rfl, ⟨by omega, by omega, by decide⟩, _, (by rw [upd_ne nD]; exact hl), ?_, ?_, ?_⟩
        · rw [List.length_map]
          have := mask_len (hasR r) i
          exact szn (by omega)
        · exact fun b o e => by
            have n : b ≠ D := ne_of_none e hD
            have n2 : b ≠ Tp := ne_of_none (sm b o e) hn
            rw [upd_ne n, upd_ne n2]; exact sm b o e
        · rw [upd_same, mask_succ, List.map_append, if_pos (show hasR r i = true from e)]
          show some (HO.lst (_ ++ [V.int (1 * 2 ^ i)])) = some (HO.lst (_ ++ [V.int (2 ^ i)]))
          rw [Int.one_mul]
      · refine ⟨sameN sm hn, ?_⟩
        rw [upd_ne nD, mask_succ, if_neg (by unfold hasR; rw [e]; exact Bool.false_ne_true), List.append_nil]
        exact hl
    · rintro H1 ⟨sm, hl⟩
      rw [RT_size] at hl
      exact ⟨D, _, rfl, .of hl, q _ sm⟩

def sp_field (K : PySem.W.Frag) : Sp := fun vs H Q _ => ∃ (b : Int) (p : Addr) (lo mn : Nat), vs = [.int b, .ref p] ∧ SqT K H p [.int lo, .int mn] ∧ 0 ≤ b ∧ lo ≤ 100 ∧ mn ≤ 100 ∧ Q (.int (b / 2 ^ lo % 2 ^ mn)) H
theorem ok_field {f : Addr} {fd : FuncData} (F : Fun K "field" "field" s_field f fd) (T : Txt K w mg) : FnOk P w K mg base CX0 1 f fd ["bits", "place"] (sp_field K) := by
  refine F.ok sc_field (fun vs H Q E h => ?_) (fun cdv A outer s H vs Q E hr h => ?_)
  · obtain ⟨b, p, lo, mn, rfl, hp, hb, hlo, hmn, q⟩ := h; rfl
  · obtain ⟨b, p, lo, mn, rfl, hp, hb, hlo, hmn, q⟩ := h
    refine ⟨_, (pss_cons (ps_asg (pv 1) (pg_tup rfl (pgs_cons (pg_name (i := 2) sc_field.nd rfl (.inl rfl)) (pgs_cons (pg_name (i := 3) sc_field.nd rfl (.inl rfl)) pgs_nil))))
      (pss_one (ps_ret (pe_op op_and (pe_op op_shr (pv 0) (pv 2)) (pe_op op_sub (pe_op op_shl pe_int (pv 3)) pe_int))))), ?_⟩
    refine ⟨_, rfl, p, _, rfl, hp, rfl, _, _, rfl, _, _, rfl, rfl, ?_⟩
    refine ⟨_, rfl, _, rfl, _, _, rfl, rfl, by omega, _, rfl, _, _, rfl, rfl, ⟨by omega, by omega, by decide⟩, _, _, rfl, rfl, _, _, rfl, rfl, ?_⟩
    have e : Builtin.bitAnd (b / 2 ^ lo) (1 * 2 ^ mn - 1) = b / 2 ^ lo % 2 ^ mn := by
      rw [Int.one_mul, Bits.bitAnd_mask mn (Int.ediv_nonneg hb (Int.le_of_lt (pow_pos2 lo)))]
    exact qi q e

def sp_rights_in (K : PySem.W.Frag) : Sp := fun vs H Q _ => ∃ b : Int, vs = [.int b] ∧ 0 ≤ b ∧ ∀ H', Same H H' → Q (.str (rtx (bitp (fRts b)))) H'
theorem ok_rights_in {f : Addr} {fd : FuncData} (F : Fun K "rights_in" "rights_in" s_rights_in f fd) (T : Txt K w mg) (C_field : Cal P w K mg base "field" 1 ["bits", "place"] (sp_field K)) : FnOk P w K mg base CX0 2 f fd ["bits"] (sp_rights_in K) := by
  obtain ⟨t_RIGHTS, hc_RIGHTS⟩ := T.c_RIGHTS
  obtain ⟨p_RIGHTS_BITS, hc_RIGHTS_BITS, hs_RIGHTS_BITS⟩ := T.c_RIGHTS_BITS
  refine F.ok sc_rights_in (fun vs H Q E h => ?_) (fun cdv A outer s H vs Q E hr h => ?_)
  · obtain ⟨b, rfl, hb, q⟩ := h; rfl
  · obtain ⟨b, rfl, hb, q⟩ := h
    refine ⟨_, (pss_cons (ps_set (i := 1) sc_rights_in.nd rfl (.inr rfl) (pe_cal C_field (hr.mono (by decide)) (pa_cons (pv 0) (pa_cons (pe_glob (v := .ref p_RIGHTS_BITS) (by rfl) hc_RIGHTS_BITS rfl) pa_nil))))
      (pss_one (ps_ret (pe_join pe_str (pe_lc (own := [("k", 2), ("sign", 3)]) (g := gTup K 2 (gCons (gName 2) (gCons (gName 3) gNil))) rfl sc_rights_in.nd (pi_enumS (by rfl) T.z_enumerate (pa_cons (pe_glob (v := .str (Str.ofString "rwlsnfxco")) (by rfl) hc_RIGHTS ⟨_, rfl⟩) pa_nil)) (blkOk_by (own := [("k", 2), ("sign", 3)]) (N := ["bits", "number", "k", "sign"]) (sc := defScope s_rights_in) (by decide +kernel)) (fun _ _ _ _ _ => by exact (pg_tup rfl (pgs_cons (pg_name (i := 2) sc_rights_in.nd rfl (.inl rfl)) (pgs_cons (pg_name (i := 3) sc_rights_in.nd rfl (.inl rfl)) pgs_nil)))) (fun _ _ _ _ _ => (pts_one (pt_cmpR op_eq (pe_op op_and (pe_op op_shr (pv 1) (pv 2)) pe_int) pe_int (nomark _)))) (fun _ _ _ _ _ => (pv 3))))))), ?_⟩
    refine ⟨_, rfl, b, p_RIGHTS_BITS, 32, 9, rfl, hs_RIGHTS_BITS _, hb, by decide, by decide, ?_⟩
    refine ⟨⟨_, rfl⟩, RT, rfl, fun D hD => ?_⟩
    have h0 : 0 ≤ fRts b := Int.emod_nonneg _ (by decide)
    refine lc_it (walk_enumS (z := RT)) (fun i H' => Same H H' ∧ H' D = some (.lst ((rcs (bitp (fRts b)) i).map V.str))) ⟨same_new hD, upd_same⟩ (fun _ _ _ _ => trivial) ?_ ?_
    · rintro i x H1 H2 hi ⟨sm, hl⟩ ⟨Tp, x1, y1, rfl, hn, rfl, hx1, hy1⟩
      rw [RT_size] at hi
      have hy1 : (RT.cps[i]?).map (fun c => V.str ⟨#[c]⟩) = some y1 := hy1
      rw [RT_get i hi] at hy1
      have e1 : x1 = .int (i : Int) := (Option.some.inj hx1).symm
      have e2 : y1 = .str (one (code i)) := (Option.some.inj hy1).symm
      subst e1 e2
      have nD : D ≠ Tp := ne_of_none hl hn
      refine ⟨Tp, _, rfl, .of upd_same, rfl, _, _, rfl, _, _, rfl, rfl, wp2 (by simp) (by simp), ?_⟩
      have eb : Builtin.bitAnd (fRts b / 2 ^ i) 1 = fRts b / 2 ^ i % 2 := by
        have := Bits.bitAnd_mask 1 (x := fRts b / 2 ^ i) (Int.ediv_nonneg h0 (Int.le_of_lt (pow_pos2 i)))
        exact this
      refine ⟨_, rfl, _, rfl, _, _, rfl, rfl, by omega, _, _, rfl, rfl, rfl, _, rfl, ifd (fun e => ?_) (fun e => ?_)⟩
      · have e3 : bitp (fRts b) i = true := by
          unfold bitp
          rw [← eb]
          exact decide_eq_true (V.int.inj e)
        refine ⟨_, rfl, _, (by rw [upd_ne nD]; exact hl), ?_, ?_, ?_⟩
        · rw [List.length_map]
          have := rcs_len (bitp (fRts b)) i
          exact szn (by omega)
        · exact fun b o e => by
            have n : b ≠ D := ne_of_none e hD
            have n2 : b ≠ Tp := ne_of_none (sm b o e) hn
            rw [upd_ne n, upd_ne n2]; exact sm b o e
        · rw [upd_same, rcs_succ, List.map_append, if_pos e3]; rfl
      · refine ⟨sameN sm hn, ?_⟩
        have e3 : ¬ bitp (fRts b) i = true := by
          unfold bitp
          rw [← eb]
          intro z
          exact e (congrArg V.int (of_decide_eq_true z))
        rw [upd_ne nD, rcs_succ, if_neg e3, List.append_nil]
        exact hl
    · rintro H1 ⟨sm, hl⟩
      rw [RT_size] at hl
      exact ⟨_, D, _, rfl, rfl, .inl (.of hl), rcs_fit _, q _ sm⟩

def sp__tell (K : PySem.W.Frag) : Sp := fun vs H Q _ => ∃ b : Int, vs = [.int b] ∧ 0 ≤ b ∧ ∀ c, (c = true ↔ Tells b) → Q (.bl c) H
theorem ok__tell {f : Addr} {fd : FuncData} (F : Fun K "_tell" "_tell" s__tell f fd) (T : Txt K w mg) (C_field : Cal P w K mg base "field" 1 ["bits", "place"] (sp_field K)) : FnOk P w K mg base CX0 2 f fd ["bits"] (sp__tell K) := by
  obtain ⟨t_CELLS, hc_CELLS⟩ := T.c_CELLS
  obtain ⟨p_COUNT_LESS_ONE, hc_COUNT_LESS_ONE, hs_COUNT_LESS_ONE⟩ := T.c_COUNT_LESS_ONE
  obtain ⟨p_FIRST, hc_FIRST, hs_FIRST⟩ := T.c_FIRST
  obtain ⟨t_LEAST_COUNT, hc_LEAST_COUNT⟩ := T.c_LEAST_COUNT
  obtain ⟨p_STEP, hc_STEP, hs_STEP⟩ := T.c_STEP
  obtain ⟨t_TOP_STEP, hc_TOP_STEP⟩ := T.c_TOP_STEP
  refine F.ok sc__tell (fun vs H Q E h => ?_) (fun cdv A outer s H vs Q E hr h => ?_)
  · obtain ⟨b, rfl, hb, q⟩ := h; rfl
  · obtain ⟨b, rfl, hb, q⟩ := h
    refine ⟨_, (pss_cons (ps_set (i := 1) sc__tell.nd rfl (.inl rfl) (pe_cal C_field (hr.mono (by decide)) (pa_cons (pv 0) (pa_cons (pe_glob (v := .ref p_STEP) (by rfl) hc_STEP rfl) pa_nil))))
      (pss_cons (ps_set (i := 2) sc__tell.nd rfl (.inl rfl) (pe_op op_add (pe_cal C_field (hr.mono (by decide)) (pa_cons (pv 0) (pa_cons (pe_glob (v := .ref p_COUNT_LESS_ONE) (by rfl) hc_COUNT_LESS_ONE rfl) pa_nil))) pe_int))
      (pss_cons (ps_if (PW.pt (pw_or (pt_cmpR op_gt (pv 1) (pe_glob (v := .int 8) (by rfl) hc_TOP_STEP ⟨_, rfl⟩) (nomark _)) (pw_or1 (PW.pt (pw_and (pt_cmpR op_gt (pv 1) pe_int (nomark _)) (pw_and1 (pt_cmpR op_lt (pv 2) (pe_glob (v := .int 9) (by rfl) hc_LEAST_COUNT ⟨_, rfl⟩) (nomark _)))))))) (pss_one (ps_ret pe_bl)) pss_nil)
      (pss_one (ps_ret (pe_cmpR op_le (pe_op op_shl (pe_op op_add (pe_cal C_field (hr.mono (by decide)) (pa_cons (pv 0) (pa_cons (pe_glob (v := .ref p_FIRST) (by rfl) hc_FIRST rfl) pa_nil))) (pv 2)) (pv 1)) (pe_glob (v := .int 4096) (by rfl) hc_CELLS ⟨_, rfl⟩) (nomark _))))))), ?_⟩
    have f := fb b
    refine ⟨_, rfl, b, p_STEP, 28, 4, rfl, hs_STEP _, hb, by decide, by decide, ?_⟩
    refine ⟨_, rfl, b, p_COUNT_LESS_ONE, 24, 4, rfl, hs_COUNT_LESS_ONE _, hb, by decide, by decide, _, _, rfl, rfl, ?_⟩
    refine ⟨_, rfl, _, _, rfl, rfl, _, rfl, ifd (fun c1 => ?_) (fun c1 => ?_)⟩
    · have c2 : 8 < fStep b := c1
      show Q (.bl false) H
      exact q _ ⟨fun h => Bool.noConfusion h, fun h => absurd h.1 (by omega)⟩
    have c2 : ¬ 8 < fStep b := c1
    have fin : ((fStep b = 0 ∨ 9 ≤ fCnt b)) → Q (.bl (decide ((fFirst b + fCnt b) * 2 ^ (fStep b).toNat ≤ 4096))) H := fun z => by
      refine q _ ?_
      rw [decide_eq_true_iff]
      exact ⟨fun h => ⟨by omega, z, h⟩, fun h => h.2.2⟩
    refine ⟨_, rfl, _, _, rfl, rfl, _, rfl, ifd (fun c3 => ?_) (fun c3 => ?_)⟩
    · have c4 : 0 < fStep b := c3
      refine ⟨_, rfl, _, _, rfl, rfl, _, rfl, ifd (fun c5 => ?_) (fun c5 => ?_)⟩
      · have c6 : fCnt b < 9 := c5
        show Q (.bl false) H
        exact q _ ⟨fun h => Bool.noConfusion h, fun h => by have := h.2.1; omega⟩
      · have c6 : ¬ fCnt b < 9 := c5
        refine ⟨_, rfl, b, p_FIRST, 12, 12, rfl, hs_FIRST _, hb, by decide, by decide, _, rfl, _, _, rfl, rfl, _, rfl, _, _, rfl, rfl, cpw (z := fFirst b + fCnt b) (s := fStep b) (by omega) (by omega) (by omega) (by omega), _, _, rfl, rfl, fin (.inr (by omega))⟩
    · have c4 : ¬ 0 < fStep b := c3
      refine ⟨_, rfl, b, p_FIRST, 12, 12, rfl, hs_FIRST _, hb, by decide, by decide, _, rfl, _, _, rfl, rfl, _, rfl, _, _, rfl, rfl, cpw (z := fFirst b + fCnt b) (s := fStep b) (by omega) (by omega) (by omega) (by omega), _, _, rfl, rfl, fin (.inl (by omega))⟩

def sp_bounds_in (K : PySem.W.Frag) : Sp := fun vs H Q _ => ∃ b : Int, vs = [.int b] ∧ 0 ≤ b ∧ ∀ p H', Same H H' → H p = none → H' p = some (.tup [.int (fFirst b * 2 ^ (fStep b).toNat), .int ((fFirst b + fCnt b) * 2 ^ (fStep b).toNat)]) → Q (.ref p) H'
theorem ok_bounds_in {f : Addr} {fd : FuncData} (F : Fun K "bounds_in" "bounds_in" s_bounds_in f fd) (T : Txt K w mg) (C_field : Cal P w K mg base "field" 1 ["bits", "place"] (sp_field K)) : FnOk P w K mg base CX0 2 f fd ["bits"] (sp_bounds_in K) := by
  obtain ⟨p_COUNT_LESS_ONE, hc_COUNT_LESS_ONE, hs_COUNT_LESS_ONE⟩ := T.c_COUNT_LESS_ONE
  obtain ⟨p_FIRST, hc_FIRST, hs_FIRST⟩ := T.c_FIRST
  obtain ⟨p_STEP, hc_STEP, hs_STEP⟩ := T.c_STEP
  refine F.ok sc_bounds_in (fun vs H Q E h => ?_) (fun cdv A outer s H vs Q E hr h => ?_)
  · obtain ⟨b, rfl, hb, q⟩ := h; rfl
  · obtain ⟨b, rfl, hb, q⟩ := h
    refine ⟨_, (pss_cons (ps_set (i := 1) sc_bounds_in.nd rfl (.inl rfl) (pe_cal C_field (hr.mono (by decide)) (pa_cons (pv 0) (pa_cons (pe_glob (v := .ref p_STEP) (by rfl) hc_STEP rfl) pa_nil))))
      (pss_cons (ps_set (i := 2) sc_bounds_in.nd rfl (.inl rfl) (pe_cal C_field (hr.mono (by decide)) (pa_cons (pv 0) (pa_cons (pe_glob (v := .ref p_FIRST) (by rfl) hc_FIRST rfl) pa_nil))))
      (pss_one (ps_ret (pe_tup (pa_cons (pe_op op_shl (pv 2) (pv 1)) (pa_cons (pe_op op_shl (pe_op op_add (pe_op op_add (pv 2) (pe_cal C_field (hr.mono (by decide)) (pa_cons (pv 0) (pa_cons (pe_glob (v := .ref p_COUNT_LESS_ONE) (by rfl) hc_COUNT_LESS_ONE rfl) pa_nil)))) pe_int) (pv 1)) pa_nil))))))), ?_⟩
    have f := fb b
    refine ⟨_, rfl, b, p_STEP, 28, 4, rfl, hs_STEP _, hb, by decide, by decide, ?_⟩
    refine ⟨_, rfl, b, p_FIRST, 12, 12, rfl, hs_FIRST _, hb, by decide, by decide, ?_⟩
    refine ⟨_, rfl, _, rfl, _, _, rfl, rfl, cpw (z := fFirst b) (s := fStep b) (by omega) (by omega) (by omega) (by omega), ?_⟩
    refine ⟨_, rfl, _, rfl, b, p_COUNT_LESS_ONE, 24, 4, rfl, hs_COUNT_LESS_ONE _, hb, by decide, by decide, _, _, rfl, rfl, _, _, rfl, rfl, _, rfl, _, _, rfl, rfl, cpw (z := fFirst b + (b / 2 ^ 24 % 2 ^ 4) + 1) (s := fStep b) (by unfold fCnt at f; omega) (by unfold fCnt at f; omega) (by omega) (by omega), sz (by simp), fun p hp => ?_⟩
    refine q p _ (same_new hp) hp ?_
    rw [upd_same]
    have e2 : fFirst b + (b / 2 ^ 24 % 2 ^ 4) + 1 = fFirst b + fCnt b := by unfold fCnt; omega
    rw [← e2]
    rfl

def sp_fields_of (K : PySem.W.Frag) : Sp := fun vs H Q _ => ∃ (p : Addr) (v : V) (b : Int), vs = [.ref p] ∧ H p = some (.tup [v, .int b]) ∧ 0 ≤ b ∧ (¬ Tells b → ∀ H', Same H H' → Q .non H') ∧ (Tells b → ∀ q H', Same H H' → H q = none → H' q = some (.tup [.int (fFirst b * 2 ^ (fStep b).toNat), .int ((fFirst b + fCnt b) * 2 ^ (fStep b).toNat), .int (fAt b), .str (rtx (bitp (fRts b))), .int (fKind b)]) → Q (.ref q) H')
theorem ok_fields_of {f : Addr} {fd : FuncData} (F : Fun K "fields_of" "fields_of" s_fields_of f fd) (T : Txt K w mg) (C_field : Cal P w K mg base "field" 1 ["bits", "place"] (sp_field K)) (C_rights_in : Cal P w K mg base "rights_in" 2 ["bits"] (sp_rights_in K)) (C__tell : Cal P w K mg base "_tell" 2 ["bits"] (sp__tell K)) (C_bounds_in : Cal P w K mg base "bounds_in" 2 ["bits"] (sp_bounds_in K)) : FnOk P w K mg base CX0 3 f fd ["word"] (sp_fields_of K) := by
  obtain ⟨p_AT, hc_AT, hs_AT⟩ := T.c_AT
  obtain ⟨p_KIND, hc_KIND, hs_KIND⟩ := T.c_KIND
  refine F.ok sc_fields_of (fun vs H Q E h => ?_) (fun cdv A outer s H vs Q E hr h => ?_)
  · obtain ⟨p, v, b, rfl, hp, hb, q1, q2⟩ := h; rfl
  · obtain ⟨p, v, b, rfl, hp, hb, q1, q2⟩ := h
    refine ⟨_, (pss_cons (ps_set (i := 1) sc_fields_of.nd rfl (.inl rfl) (pe_ix (r := rIxT K) ix_tup (pv 0) pe_int (fun _ _ => rfl)))
      (pss_cons (ps_if (pt_not (pt_val (pe_cal C__tell (hr.mono (by decide)) (pa_cons (pv 1) pa_nil)))) (pss_one (ps_ret pe_non)) pss_nil)
      (pss_cons (ps_asg (pe_cal C_bounds_in (hr.mono (by decide)) (pa_cons (pv 1) pa_nil)) (pg_tup rfl (pgs_cons (pg_name (i := 2) sc_fields_of.nd rfl (.inl rfl)) (pgs_cons (pg_name (i := 3) sc_fields_of.nd rfl (.inl rfl)) pgs_nil))))
      (pss_one (ps_ret (pe_tup (pa_cons (pv 2) (pa_cons (pv 3) (pa_cons (pe_cal C_field (hr.mono (by decide)) (pa_cons (pv 1) (pa_cons (pe_glob (v := .ref p_AT) (by rfl) hc_AT rfl) pa_nil))) (pa_cons (pe_cal C_rights_in (hr.mono (by decide)) (pa_cons (pv 1) pa_nil)) (pa_cons (pe_cal C_field (hr.mono (by decide)) (pa_cons (pv 1) (pa_cons (pe_glob (v := .ref p_KIND) (by rfl) hc_KIND rfl) pa_nil))) pa_nil))))))))))), ?_⟩
    refine ⟨_, rfl, p, _, 1, _, rfl, rfl, .of hp, atI_nat (j := 1) rfl, ?_⟩
    refine ⟨_, rfl, b, rfl, hb, fun c hc => ⟨_, rfl, ifnb (fun e => ?_) (fun e => ?_)⟩⟩
    · show Q .non H
      exact q1 (fun z => by rw [hc.mpr z] at e; cases e) H (Same.refl _)
    refine ⟨_, rfl, b, rfl, hb, fun p1 H0 s0 hp1 h1 => ?_⟩
    refine ⟨p1, _, rfl, .of h1, rfl, _, _, rfl, _, _, rfl, rfl, ?_⟩
    refine ⟨_, rfl, _, rfl, _, rfl, b, p_AT, 0, 12, rfl, hs_AT _, hb, by decide, by decide, _, rfl, b, rfl, hb, fun H1 s1 => ?_⟩
    refine ⟨_, rfl, b, p_KIND, 41, 4, rfl, hs_KIND _, hb, by decide, by decide, sz (by simp), fun q hq => ?_⟩
    refine q2 (hc.mp e) q _ (sameN (s0.trans s1) hq) (Same.free (s0.trans s1) hq) ?_
    rw [upd_same]
    rfl

def sp_is_rights (K : PySem.W.Frag) : Sp := fun vs H Q _ => ∃ v, vs = [v] ∧ Kd H v ∧ ∀ b H', Same H H' → (b = true ↔ ∃ r, v = .str r ∧ r = rtx (hasR r)) → Q (.bl b) H'
theorem ok_is_rights {f : Addr} {fd : FuncData} (F : Fun K "is_rights" "is_rights" s_is_rights f fd) (T : Txt K w mg) : FnOk P w K mg base CX0 1 f fd ["thing"] (sp_is_rights K) := by
  obtain ⟨t_RIGHTS, hc_RIGHTS⟩ := T.c_RIGHTS
  refine F.ok sc_is_rights (fun vs H Q E h => ?_) (fun cdv A outer s H vs Q E hr h => ?_)
  · obtain ⟨v, rfl, hv, q⟩ := h; rfl
  · obtain ⟨v, rfl, hv, q⟩ := h
    refine ⟨_, (pss_one (ps_ret (pe_and (pe_callB call_isi (by rfl) T.z_isinstance (by decide +kernel) (pa_cons (pv 0) (pa_cons (pe_bltn (v := .ty "str") (by rfl) T.z_str (by decide +kernel) rfl) pa_nil))) (pe_one (pe_cmpR op_eq (pv 0) (pe_join pe_str (pe_lc (own := [("sign", 1)]) rfl sc_is_rights.nd (pi_str (pe_glob (v := .str (Str.ofString "rwlsnfxco")) (by rfl) hc_RIGHTS ⟨_, rfl⟩)) (blkOk_by (own := [("sign", 1)]) (N := ["thing", "sign"]) (sc := defScope s_is_rights) (by decide +kernel)) (fun _ _ _ _ _ => (pg_name (i := 1) sc_is_rights.nd rfl (.inl rfl))) (fun _ _ _ _ _ => (pts_one (pt_cmpR op_in_sign (pv 1) (pv 0) (by rfl)))) (fun _ _ _ _ _ => (pv 1)))) (nomark _)))))), ?_⟩
    obtain ⟨t, ty, kt⟩ := hv.str? (K := K)
    refine ⟨_, rfl, _, _, t, _, isS v, rfl, .ty "str", ty, kt, isS v, rfl, ifb (fun e1 => ?_) (fun e1 => ?_)⟩
    · obtain ⟨r, rfl⟩ : ∃ r, v = .str r := by
        cases hv with
        | str r => exact ⟨r, rfl⟩
        | _ => cases e1
      refine ⟨_, rfl, ⟨_, rfl⟩, RT, rfl, fun D hD => ?_⟩
      refine lc_it (walk_str (z := RT)) (fun i H' => Same H H' ∧ H' D = some (.lst ((rcs (hasR r) i).map V.str))) ⟨same_new hD, upd_same⟩ (fun _ _ _ _ => trivial) ?_ ?_
      · rintro i x H1 H2 hi ⟨sm, hl⟩ ⟨rfl, c, hc, rfl⟩
        rw [RT_size] at hi
        rw [RT_get i hi] at hc
        have ec : c = code i := (Option.some.inj hc).symm
        subst ec
        refine ⟨rfl, ?_⟩
        refine ⟨_, rfl, _, rfl, code i, r, rfl, rfl, _, rfl, ifb (fun e => ?_) (fun e => ?_)⟩
        · refine ⟨_, rfl, _, hl, ?_, ?_, ?_⟩
          · rw [List.length_map]
            have := rcs_len (hasR r) i
            exact szn (by omega)
          · exact fun b o e => by
              have n : b ≠ D := ne_of_none e hD
              rw [upd_ne n]; exact sm b o e
          · rw [upd_same, rcs_succ, List.map_append, if_pos (show hasR r i = true from e)]; rfl
        · refine ⟨sm, ?_⟩
          rw [rcs_succ, if_neg (by unfold hasR; rw [e]; exact Bool.false_ne_true), List.append_nil]
          exact hl
      · rintro H1 ⟨sm, hl⟩
        rw [RT_size] at hl
        refine ⟨_, D, _, rfl, rfl, .inl (.of hl), rcs_fit _, rfl, q _ _ sm ?_⟩
        rw [decide_eq_true_iff]
        exact ⟨fun h => ⟨r, rfl, V.str.inj h⟩, fun ⟨r', e, h⟩ => by cases e; exact congrArg V.str h⟩
    · refine q _ _ (Same.refl _) ⟨fun h => Bool.noConfusion h, fun ⟨r', e, h⟩ => by cases e; cases e1⟩

def sp__are_fields (K : PySem.W.Frag) : Sp := fun vs H Q _ => ∃ v, vs = [v] ∧ ((∃ p xs, v = .ref p ∧ H p = some (.tup xs) ∧ (∀ x ∈ xs, Kd H x) ∧ ∀ b H', Same H H' → (b = true ↔ F5 xs) → Q (.bl b) H') ∨ (NoT H v ∧ ∀ H', Same H H' → Q (.bl false) H'))
theorem ok__are_fields {f : Addr} {fd : FuncData} (F : Fun K "_are_fields" "_are_fields" s__are_fields f fd) (T : Txt K w mg) (C_is_whole : Cal P w K mg base "is_whole" 1 ["thing", "least", "most"] (sp_is_whole K)) (C_are_bounds : Cal P w K mg base "are_bounds" 2 ["low", "high"] (sp_are_bounds K)) (C_is_exact : Cal P w K mg base "is_exact" 6 ["low", "high"] (sp_is_exact K)) (C__lead_one_way : Cal P w K mg base "_lead_one_way" 2 ["rights"] (sp__lead_one_way K)) (C_is_rights : Cal P w K mg base "is_rights" 1 ["thing"] (sp_is_rights K)) : FnOk P w K mg base CX0 7 f fd ["thing"] (sp__are_fields K) := by
  obtain ⟨t_CELLS, hc_CELLS⟩ := T.c_CELLS
  obtain ⟨t_TOP_KIND, hc_TOP_KIND⟩ := T.c_TOP_KIND
  refine F.ok sc__are_fields (fun vs H Q E h => ?_) (fun cdv A outer s H vs Q E hr h => ?_)
  · obtain ⟨v, rfl, q⟩ := h; rfl
  · obtain ⟨v, rfl, q⟩ := h
    refine ⟨_, (pss_cons (ps_if (PW.pt (pw_or (pt_not (pt_val (pe_callB call_isi (by rfl) T.z_isinstance (by decide +kernel) (pa_cons (pv 0) (pa_cons (pe_bltn (v := .ty "tuple") (by rfl) T.z_tuple (by decide +kernel) rfl) pa_nil))))) (pw_or1 (pt_cmpR op_ne (pe_callB call_len_seq (by rfl) T.z_len (by decide +kernel) (pa_cons (pv 0) pa_nil)) pe_int (nomark _))))) (pss_one (ps_ret pe_bl)) pss_nil)
      (pss_cons (ps_asg (pv 0) (pg_tup rfl (pgs_cons (pg_name (i := 1) sc__are_fields.nd rfl (.inl rfl)) (pgs_cons (pg_name (i := 2) sc__are_fields.nd rfl (.inl rfl)) (pgs_cons (pg_name (i := 3) sc__are_fields.nd rfl (.inl rfl)) (pgs_cons (pg_name (i := 4) sc__are_fields.nd rfl (.inl rfl)) (pgs_cons (pg_name (i := 5) sc__are_fields.nd rfl (.inl rfl)) pgs_nil)))))))
      (pss_cons (ps_if (PW.pt (pw_or (pt_not (pt_val (pe_cal C_are_bounds (hr.mono (by decide)) (pa_cons (pv 1) (pa_cons (pv 2) pa_nil))))) (pw_or1 (pt_not (pt_val (pe_cal C_is_exact (hr.mono (by decide)) (pa_cons (pv 1) (pa_cons (pv 2) pa_nil)))))))) (pss_one (ps_ret pe_bl)) pss_nil)
      (pss_cons (ps_if (PW.pt (pw_or (pt_not (pt_val (pe_cal C_is_whole (hr.mono (by decide)) (pa_cons (pv 3) (pa_cons pe_int (pa_cons (pe_op op_sub (pe_glob (v := .int 4096) (by rfl) hc_CELLS ⟨_, rfl⟩) pe_int) pa_nil)))))) (pw_or1 (pt_not (pt_val (pe_cal C_is_whole (hr.mono (by decide)) (pa_cons (pv 5) (pa_cons pe_int (pa_cons (pe_glob (v := .int 15) (by rfl) hc_TOP_KIND ⟨_, rfl⟩) pa_nil))))))))) (pss_one (ps_ret pe_bl)) pss_nil)
      (pss_one (ps_ret (pe_and (pe_cal C_is_rights (hr.mono (by decide)) (pa_cons (pv 4) pa_nil)) (pe_one (pe_cal C__lead_one_way (hr.mono (by decide)) (pa_cons (pv 4) pa_nil)))))))))), ?_⟩
    rcases q with ⟨p, xs, rfl, hp, hk, q⟩ | ⟨nt, q⟩
    · refine ⟨_, rfl, _, _, _, _, true, rfl, .ty "tuple", .base (.tup hp), kit_ty (by decide +kernel), true, rfl, ?_⟩
      refine ⟨_, rfl, p, _, rfl, .inr (.of hp), rfl, _, rfl, ifnd (fun c => ?_) (fun c => ?_)⟩
      · show Q (.bl false) H
        refine q _ _ (Same.refl _) ⟨fun h => Bool.noConfusion h, fun ⟨a1, a2, a3, a4, a5, e, _⟩ => ?_⟩
        subst e
        exact absurd rfl c
      have h5 : xs.length = 5 := by
        have := V.int.inj c
        omega
      obtain ⟨x1, x2, x3, x4, x5, rfl⟩ : ∃ x1 x2 x3 x4 x5, xs = [x1, x2, x3, x4, x5] := match xs, h5 with
        | [a, b, c, d, e], _ => ⟨a, b, c, d, e, rfl⟩
      refine ⟨_, rfl, p, _, rfl, .of hp, rfl, _, _, rfl, _, _, rfl, _, _, rfl, _, _, rfl, _, _, rfl, rfl, ?_⟩
      have no : ∀ H', Same H H' → ¬ F5 [x1, x2, x3, x4, x5] → Q (.bl false) H' := fun H' s z => q _ _ s ⟨fun h => Bool.noConfusion h, fun h => absurd h z⟩
      refine ⟨_, rfl, _, rfl, x1, x2, rfl, hk x1 (by simp), hk x2 (by simp), fun b hb => ⟨_, rfl, ifnb (fun e => ?_) (fun e => ?_)⟩⟩
      · show Q (.bl false) H
        refine no _ (Same.refl _) ?_
        rintro ⟨lo, hi, a, r, kd, ex, bd, _⟩
        injection ex with e1 e2
        injection e2 with e2 e3
        rw [hb.mpr ⟨lo, hi, e1, e2, bd⟩] at e; cases e
      obtain ⟨lo, hi, rfl, rfl, bd⟩ := hb.mp e
      refine ⟨_, rfl, _, rfl, lo, hi, rfl, bd, fun b2 H1 s1 hb2 => ⟨_, rfl, ifnb (fun e2 => ?_) (fun e2 => ?_)⟩⟩
      · show Q (.bl false) H1
        refine no _ s1 ?_
        rintro ⟨lo', hi', a, r, kd, ex, bd, hex, _⟩
        injection ex with e1 e3
        injection e3 with e3 e4
        cases e1; cases e3
        rw [hb2.mpr hex] at e2; cases e2
      have hex := hb2.mp e2
      refine ⟨_, rfl, _, _, rfl, rfl, x3, _, _, rfl, (hk x3 (by simp)).same s1, fun b3 hb3 => ⟨_, rfl, ifnb (fun e3 => ?_) (fun e3 => ?_)⟩⟩
      · show Q (.bl false) H1
        refine no _ s1 ?_
        rintro ⟨lo', hi', a, r, kd, ex, _, _, a0, a1, _⟩
        injection ex with _ ex
        injection ex with _ ex
        injection ex with ex _
        rw [hb3.mpr ⟨a, ex, a0, a1⟩] at e3; cases e3
      obtain ⟨at', rfl, a0, a1⟩ := hb3.mp e3
      refine ⟨_, rfl, x5, _, _, rfl, (hk x5 (by simp)).same s1, fun b4 hb4 => ⟨_, rfl, ifnb (fun e4 => ?_) (fun e4 => ?_)⟩⟩
      · show Q (.bl false) H1
        refine no _ s1 ?_
        rintro ⟨lo', hi', a, r, kd, ex, _, _, _, _, k0, k1, _⟩
        injection ex with _ ex
        injection ex with _ ex
        injection ex with _ ex
        injection ex with _ ex
        injection ex with ex _
        rw [hb4.mpr ⟨kd, ex, k0, k1⟩] at e4; cases e4
      obtain ⟨kd, rfl, k0, k1⟩ := hb4.mp e4
      refine ⟨_, rfl, x4, rfl, (hk x4 (by simp)).same s1, fun b5 H2 s2 hb5 => ⟨_, rfl, ifb (fun e5 => ?_) (fun e5 => ?_)⟩⟩
      · obtain ⟨r, rfl, hr5⟩ := hb5.mp e5
        refine ⟨_, rfl, r, rfl, fun H3 s3 => q _ _ ((s1.trans s2).trans s3) ?_⟩
        rw [decide_eq_true_iff]
        constructor
        · intro h
          exact ⟨lo, hi, at', r, kd, rfl, bd, hex, a0, a1, k0, k1, hr5, h⟩
        · rintro ⟨lo', hi', a, r', kd', ex, _, _, _, _, _, _, _, h⟩
          injection ex with _ ex
          injection ex with _ ex
          injection ex with _ ex
          injection ex with ex _
          cases ex
          exact h
      · refine no _ (s1.trans s2) ?_
        rintro ⟨lo', hi', a, r, kd', ex, _, _, _, _, _, _, hr5, _⟩
        injection ex with _ ex
        injection ex with _ ex
        injection ex with _ ex
        injection ex with ex _
        rw [hb5.mpr ⟨r, ex, hr5⟩] at e5; cases e5
    · obtain ⟨t, ty, kt⟩ := nt.tup? (K := K)
      refine ⟨_, rfl, _, _, t, _, false, rfl, .ty "tuple", ty, kt, false, rfl, ?_⟩
      show Q (.bl false) H
      exact q _ (Same.refl _)

def sp_word_of (K : PySem.W.Frag) : Sp := fun vs H Q E => ∃ (v mk : V), vs = [v, mk] ∧ ((∃ (p : Addr) (xs : List V), v = .ref p ∧ H p = some (.tup xs) ∧ (∀ x ∈ xs, Kd H x) ∧ (∀ (lo hi at' : Int) (r : Str) (kd : Int), xs = [.int lo, .int hi, .int at', .str r, .int kd] → F5 xs → ∀ (s : Nat) q H', StepIs lo hi s → Same H H' → H q = none → H' q = some (.tup [mk, .int (wbits lo hi at' (maskOf r) kd s)]) → Q (.ref q) H') ∧ (¬ F5 xs → Lets K "NoFields" "text" H E)) ∨ (NoT H v ∧ Lets K "NoFields" "text" H E))
theorem ok_word_of {f : Addr} {fd : FuncData} (F : Fun K "word_of" "word_of" s_word_of f fd) (T : Txt K w mg) (C_in_bits : Cal P w K mg base "in_bits" 4 ["low", "high"] (sp_in_bits K)) (C_bits_of_rights : Cal P w K mg base "bits_of_rights" 1 ["rights"] (sp_bits_of_rights K)) (C__are_fields : Cal P w K mg base "_are_fields" 7 ["thing"] (sp__are_fields K)) (R_NoFields : ErrK P w K mg base "NoFields" "text") : FnOk P w K mg base (L2.CX P w) 8 f fd ["fields", "marked"] (sp_word_of K) := by
  obtain ⟨p_AT, hc_AT, hs_AT⟩ := T.c_AT
  obtain ⟨p_COUNT_LESS_ONE, hc_COUNT_LESS_ONE, hs_COUNT_LESS_ONE⟩ := T.c_COUNT_LESS_ONE
  obtain ⟨p_FIRST, hc_FIRST, hs_FIRST⟩ := T.c_FIRST
  obtain ⟨p_KIND, hc_KIND, hs_KIND⟩ := T.c_KIND
  obtain ⟨p_RIGHTS_BITS, hc_RIGHTS_BITS, hs_RIGHTS_BITS⟩ := T.c_RIGHTS_BITS
  obtain ⟨p_STEP, hc_STEP, hs_STEP⟩ := T.c_STEP
  refine F.okX sc_word_of (fun vs H Q E h => ?_) (fun cdv A outer s H vs Q E hr h => ?_)
  · obtain ⟨v, mk, rfl, q⟩ := h; rfl
  · obtain ⟨v, mk, rfl, q⟩ := h
    refine ⟨_, (pss_cons (ps_if (pt_not (pt_val (pe_cal C__are_fields (hr.mono (by decide)) (pa_cons (pv 0) pa_nil)))) (pss_one (ps_raise rfl (takes_of rfl rfl rfl rfl) (by exact (pmk_err R_NoFields (hr.mono (by decide)) pe_str)))) pss_nil)
      (PSs.nox (pss_cons (ps_asg (pv 0) (pg_tup rfl (pgs_cons (pg_name (i := 2) sc_word_of.nd rfl (.inl rfl)) (pgs_cons (pg_name (i := 3) sc_word_of.nd rfl (.inl rfl)) (pgs_cons (pg_name (i := 4) sc_word_of.nd rfl (.inl rfl)) (pgs_cons (pg_name (i := 5) sc_word_of.nd rfl (.inl rfl)) (pgs_cons (pg_name (i := 6) sc_word_of.nd rfl (.inl rfl)) pgs_nil)))))))
      (pss_cons (ps_asg (pe_cal C_in_bits (hr.mono (by decide)) (pa_cons (pv 2) (pa_cons (pv 3) pa_nil))) (pg_tup rfl (pgs_cons (pg_name (i := 7) sc_word_of.nd rfl (.inl rfl)) (pgs_cons (pg_name (i := 8) sc_word_of.nd rfl (.inl rfl)) (pgs_cons (pg_name (i := 9) sc_word_of.nd rfl (.inl rfl)) pgs_nil)))))
      (pss_cons (ps_set (i := 10) sc_word_of.nd rfl (.inl rfl) (pe_tup (pa_cons (pe_glob (v := .ref p_AT) (by rfl) hc_AT rfl) (pa_cons (pe_glob (v := .ref p_FIRST) (by rfl) hc_FIRST rfl) (pa_cons (pe_glob (v := .ref p_COUNT_LESS_ONE) (by rfl) hc_COUNT_LESS_ONE rfl) (pa_cons (pe_glob (v := .ref p_STEP) (by rfl) hc_STEP rfl) (pa_cons (pe_glob (v := .ref p_RIGHTS_BITS) (by rfl) hc_RIGHTS_BITS rfl) (pa_cons (pe_glob (v := .ref p_KIND) (by rfl) hc_KIND rfl) pa_nil))))))))
      (pss_cons (ps_set (i := 11) sc_word_of.nd rfl (.inl rfl) (pe_tup (pa_cons (pv 4) (pa_cons (pv 8) (pa_cons (pe_op op_sub (pv 9) pe_int) (pa_cons (pv 7) (pa_cons (pe_cal C_bits_of_rights (hr.mono (by decide)) (pa_cons (pv 5) pa_nil)) (pa_cons (pv 6) pa_nil))))))))
      (pss_one (ps_ret (pe_tup (pa_cons (pv 1) (pa_cons (pe_callB (cr_sum rfl) (by rfl) T.z_sum (by decide +kernel) (pa_cons (pe_lc (own := [("place", 12), ("worth", 13)]) (g := gTup K 2 (gCons (gName 12) (gCons (gName 13) gNil))) rfl sc_word_of.nd (RZ.pi_zipA (by rfl) T.z_zip (pa_cons (pv 10) (pa_cons (pv 11) pa_nil))) (blkOk_by (own := [("place", 12), ("worth", 13)]) (N := ["fields", "marked", "low", "high", "at", "rights", "kind", "step", "first", "count", "places", "worths", "place", "worth"]) (sc := defScope s_word_of) (by decide +kernel)) (fun _ _ _ _ _ => by exact (pg_tup rfl (pgs_cons (pg_name (i := 12) sc_word_of.nd rfl (.inl rfl)) (pgs_cons (pg_name (i := 13) sc_word_of.nd rfl (.inl rfl)) pgs_nil)))) (fun _ _ _ _ _ => pts_nil) (fun _ _ _ _ _ => (pe_op op_shl (pv 13) (pe_ix (r := rIxT K) ix_tup (pv 12) pe_int (fun _ _ => rfl))))) pa_nil)) pa_nil))))))))))), ?_⟩
    rcases q with ⟨p, xs, rfl, hp, hk, q, bad⟩ | ⟨nt, bad⟩
    · refine ⟨_, rfl, _, rfl, .inl ⟨p, xs, rfl, hp, hk, fun b H1 s1 hb => ⟨_, rfl, ?_⟩⟩⟩
      refine ifnb (fun e => ?_) (fun e => ?_)
      · have nf : ¬ F5 xs := fun z => by rw [hb.mpr z] at e; cases e
        exact fun C d hC hd => bad nf C d _ H1 hC s1 hd
      have hf := hb.mp e
      obtain ⟨lo, hi, at', r, kd, ex, bd, hex, a0, a1, k0, k1, hr5, how⟩ := id hf
      subst ex
      replace q := q lo hi at' r kd rfl hf
      refine ⟨_, rfl, p, _, rfl, .of (s1 _ _ hp), rfl, _, _, rfl, _, _, rfl, _, _, rfl, _, _, rfl, _, _, rfl, rfl, ?_⟩
      refine ⟨_, rfl, _, rfl, lo, hi, rfl, bd, fun s p1 hs hp1 => ?_⟩
      refine ⟨p1, _, rfl, .of upd_same, rfl, _, _, rfl, _, _, rfl, _, _, rfl, rfl, ?_⟩
      refine ⟨sz (by simp), fun pp hpp => ?_⟩
      refine ⟨_, rfl, _, rfl, _, rfl, _, _, rfl, rfl, _, rfl, _, rfl, r, rfl, fun H2 s2 => ⟨_, rfl, sz (by simp), fun pw hpw => ?_⟩⟩
      have npw : pp ≠ pw := ne_of_none (s2 _ _ upd_same) hpw
      refine ⟨_, rfl, _, rfl, _, rfl, pp, pw, _, _, rfl, .inr ⟨.of (by rw [upd_ne npw]; exact s2 _ _ upd_same), .of upd_same, fun D hD => ?_⟩⟩
      have sA : Same H (upd H2 pw (.tup [.int at', .int (lo / 2 ^ s), .int (Dd lo hi s + 1 - 1), .int s, .int (maskOf r), .int kd])) := sameN (((s1.trans (sameN (same_new hp1) hpp))).trans s2) hpw
      have fpp := s2 pp _ upd_same
      have h8 := hs.1
      have dl := div_le' (s := s) bd.1
      have mb := maskOf_b r
      have dd := hs.2.1
      have dd0' : 0 ≤ Dd lo hi s := by
        unfold Dd
        have := Int.ediv_le_ediv (pow_pos2 s) (show lo ≤ hi - 1 by have := bd.2.1; omega)
        omega
      have b3 := bd.2
      have ewb : wbits lo hi at' (maskOf r) kd s = (wl at' (lo / 2 ^ s) (Dd lo hi s + 1 - 1) s (maskOf r) kd).sum := rfl
      have q' := q s
      rw [ewb] at q'
      have w1 : BW at' := ⟨a0, by omega⟩
      have w2 : BW (lo / 2 ^ s) := ⟨dl.1, by omega⟩
      have w3 : BW (Dd lo hi s + 1 - 1) := ⟨by omega, by omega⟩
      have w4 : BW (s : Int) := ⟨by omega, by omega⟩
      have w5 : BW (maskOf r) := ⟨mb.1, by omega⟩
      have w6 : BW kd := ⟨k0, by omega⟩
      clear mb dd dd0' q
      refine lc_it (walk_zipT (K := K) (a := pp) (b := pw) (n := 6) (xs := [.ref p_AT, .ref p_FIRST, .ref p_COUNT_LESS_ONE, .ref p_STEP, .ref p_RIGHTS_BITS, .ref p_KIND]) (ys := [.int at', .int (lo / 2 ^ s), .int (Dd lo hi s + 1 - 1), .int s, .int (maskOf r), .int kd]) rfl) (fun i H' => Same _ H' ∧ H' D = some (.lst (((wl at' (lo / 2 ^ s) (Dd lo hi s + 1 - 1) s (maskOf r) kd).take i).map V.int))) ⟨same_new hD, upd_same⟩ (fun i H' _ h => ⟨.of (h.1 _ _ (by rw [upd_ne npw]; exact fpp)), .of (h.1 _ _ upd_same)⟩) ?_ ?_
      · rintro i x H3 H4 hi6 ⟨sm, hl⟩ ⟨Tp, x1, y1, rfl, hn, rfl, hx1, hy1⟩
        have nD : D ≠ Tp := ne_of_none hl hn
        obtain ⟨pa, lo2, mn2, z, rfl, sq, l100, rfl, bz, tk⟩ := six_at hi6 hx1 hy1 hs_AT hs_FIRST hs_COUNT_LESS_ONE hs_STEP hs_RIGHTS_BITS hs_KIND w1 w2 w3 w4 w5 w6
        generalize hw : wipe _ (List.map _ _) = τ
        have ht : τ = [some (.ref p), some mk, some (.int lo), some (.int hi), some (.int at'), some (.str r), some (.int kd), some (.int s), some (.int (lo / 2 ^ s)), some (.int (Dd lo hi s + 1)), some (.ref pp), some (.ref pw), none, none] := by rw [← hw]; rfl
        clear hw
        subst ht
        refine ⟨Tp, _, rfl, .of upd_same, rfl, _, _, rfl, _, _, rfl, rfl, rfl, ?_⟩
        refine ⟨_, rfl, _, rfl, pa, _, 0, _, rfl, rfl, sq _, atI_nat (j := 0) rfl, _, _, rfl, rfl, cpw bz.1 bz.2 (by omega) (by omega), _, (by rw [upd_ne nD]; exact hl), ?_, ?_, ?_⟩
        · rw [List.length_map, List.length_take]
          exact szn (Nat.lt_of_le_of_lt (Nat.min_le_left _ _) (by omega))
        · exact fun b o e => by
            have n : b ≠ D := ne_of_none e hD
            have n2 : b ≠ Tp := ne_of_none (sm b o e) hn
            rw [upd_ne n, upd_ne n2]; exact sm b o e
        · rw [upd_same, tk, List.map_append]; rfl
      · rintro H3 ⟨sm, hl⟩
        refine ⟨D, _, rfl, .of hl, sz (by simp), fun pq hpq => ?_⟩
        refine q' pq _ hs (sameN (sA.trans sm) hpq) (Same.free (sA.trans sm) hpq) ?_
        rw [upd_same]; rfl
    · refine ⟨_, rfl, _, rfl, .inr ⟨nt, fun H1 s1 => ⟨_, rfl, ?_⟩⟩⟩
      refine ifnb (fun _ => ?_) (fun e => by cases e)
      exact fun C d hC hd => bad C d _ H1 hC s1 hd

def sp_is_word (K : PySem.W.Frag) : Sp := fun vs H Q _ => ∃ v, vs = [v] ∧ ((∃ p xs, v = .ref p ∧ H p = some (.tup xs) ∧ (∀ x ∈ xs, Kd H x) ∧ ∀ b, (b = true ↔ ∃ m n, xs = [.bl m, .int n] ∧ W45 n) → Q (.bl b) H) ∨ (NoT H v ∧ Q (.bl false) H))
theorem ok_is_word {f : Addr} {fd : FuncData} (F : Fun K "is_word" "is_word" s_is_word f fd) (T : Txt K w mg) (C_is_whole : Cal P w K mg base "is_whole" 1 ["thing", "least", "most"] (sp_is_whole K)) : FnOk P w K mg base CX0 2 f fd ["thing"] (sp_is_word K) := by
  obtain ⟨t_WORTHS, hc_WORTHS⟩ := T.c_WORTHS
  refine F.ok sc_is_word (fun vs H Q E h => ?_) (fun cdv A outer s H vs Q E hr h => ?_)
  · obtain ⟨v, rfl, q⟩ := h; rfl
  · obtain ⟨v, rfl, q⟩ := h
    refine ⟨_, (pss_cons (ps_if (PW.pt (pw_or (pt_not (pt_val (pe_callB call_isi (by rfl) T.z_isinstance (by decide +kernel) (pa_cons (pv 0) (pa_cons (pe_bltn (v := .ty "tuple") (by rfl) T.z_tuple (by decide +kernel) rfl) pa_nil))))) (pw_or1 (pt_cmpR op_ne (pe_callB call_len_seq (by rfl) T.z_len (by decide +kernel) (pa_cons (pv 0) pa_nil)) pe_int (nomark _))))) (pss_one (ps_ret pe_bl)) pss_nil)
      (pss_cons (ps_asg (pv 0) (pg_tup rfl (pgs_cons (pg_name (i := 1) sc_is_word.nd rfl (.inl rfl)) (pgs_cons (pg_name (i := 2) sc_is_word.nd rfl (.inl rfl)) pgs_nil))))
      (pss_one (ps_ret (pe_and (pe_callB call_isi (by rfl) T.z_isinstance (by decide +kernel) (pa_cons (pv 1) (pa_cons (pe_bltn (v := .ty "bool") (by rfl) T.z_bool (by decide +kernel) rfl) pa_nil))) (pe_one (pe_cal C_is_whole (hr.mono (by decide)) (pa_cons (pv 2) (pa_cons pe_int (pa_cons (pe_op op_sub (pe_glob (v := .int 35184372088832) (by rfl) hc_WORTHS ⟨_, rfl⟩) pe_int) pa_nil)))))))))), ?_⟩
    rcases q with ⟨p, xs, rfl, hp, hk, q⟩ | ⟨nt, q⟩
    · refine ⟨_, rfl, _, _, _, _, true, rfl, .ty "tuple", .base (.tup hp), kit_ty (by decide +kernel), true, rfl, ?_⟩
      refine ⟨_, rfl, p, _, rfl, .inr (.of hp), rfl, _, rfl, ifnd (fun c => ?_) (fun c => ?_)⟩
      · show Q (.bl false) H
        refine q _ ⟨fun h => Bool.noConfusion h, fun ⟨m, n, e, _⟩ => ?_⟩
        subst e
        exact absurd rfl c
      have h2 : xs.length = 2 := by
        have := V.int.inj c
        omega
      obtain ⟨x1, x2, rfl⟩ : ∃ x1 x2, xs = [x1, x2] := match xs, h2 with
        | [a, b], _ => ⟨a, b, rfl⟩
      refine ⟨_, rfl, p, _, rfl, .of hp, rfl, _, _, rfl, _, _, rfl, rfl, ?_⟩
      obtain ⟨t, ty, kt⟩ := (hk x1 (by simp)).bool? (K := K)
      refine ⟨_, rfl, _, _, t, _, isB x1, rfl, .ty "bool", ty, kt, isB x1, rfl, ifb (fun e1 => ?_) (fun e1 => ?_)⟩
      · obtain ⟨m, rfl⟩ : ∃ m, x1 = .bl m := by
          cases x1 with
          | bl m => exact ⟨m, rfl⟩
          | _ => cases e1
        refine ⟨_, rfl, _, _, rfl, rfl, x2, _, _, rfl, hk x2 (by simp), fun b hb => q _ ?_⟩
        rw [hb]
        constructor
        · rintro ⟨n, rfl, h0, h1⟩
          exact ⟨m, n, rfl, h0, by omega⟩
        · rintro ⟨m', n, e, h0, h1⟩
          injection e with _ e
          injection e with e _
          exact ⟨n, e, h0, by omega⟩
      · refine q _ ⟨fun h => Bool.noConfusion h, fun ⟨m, n, e, _⟩ => ?_⟩
        injection e with e _
        subst e
        cases e1
    · obtain ⟨t, ty, kt⟩ := nt.tup? (K := K)
      refine ⟨_, rfl, _, _, t, _, false, rfl, .ty "tuple", ty, kt, false, rfl, ?_⟩
      exact q

def sp__may_be_marked (K : PySem.W.Frag) : Sp := fun vs H Q _ => ∃ n, vs = [.int n] ∧ 0 ≤ n ∧ ∀ b H', Same H H' → (b = true ↔ Law n) → Q (.bl b) H'
theorem ok__may_be_marked {f : Addr} {fd : FuncData} (F : Fun K "_may_be_marked" "_may_be_marked" s__may_be_marked f fd) (T : Txt K w mg) (C__lead_one_way : Cal P w K mg base "_lead_one_way" 2 ["rights"] (sp__lead_one_way K)) (C_rights_in : Cal P w K mg base "rights_in" 2 ["bits"] (sp_rights_in K)) (C__tell : Cal P w K mg base "_tell" 2 ["bits"] (sp__tell K)) : FnOk P w K mg base CX0 3 f fd ["bits"] (sp__may_be_marked K) := by
  refine F.ok sc__may_be_marked (fun vs H Q E h => ?_) (fun cdv A outer s H vs Q E hr h => ?_)
  · obtain ⟨n, rfl, hn, q⟩ := h; rfl
  · obtain ⟨n, rfl, hn, q⟩ := h
    refine ⟨_, (pss_one (ps_ret (pe_and (pe_cal C__tell (hr.mono (by decide)) (pa_cons (pv 0) pa_nil)) (pe_one (pe_cal C__lead_one_way (hr.mono (by decide)) (pa_cons (pe_cal C_rights_in (hr.mono (by decide)) (pa_cons (pv 0) pa_nil)) pa_nil)))))), ?_⟩
    refine ⟨_, rfl, n, rfl, hn, fun c hc => ⟨_, rfl, ifb (fun e => ?_) (fun e => ?_)⟩⟩
    · refine ⟨_, rfl, n, rfl, hn, fun H1 s1 => ⟨_, rfl, fun H2 s2 => q _ _ (s1.trans s2) ?_⟩⟩
      rw [decide_eq_true_iff]
      exact ⟨fun h => ⟨hc.mp e, h⟩, fun h => h.2⟩
    · exact q _ _ (Same.refl _) ⟨fun h => Bool.noConfusion h, fun h => by rw [hc.mpr h.1] at e; cases e⟩

def sp_is_lawful (K : PySem.W.Frag) : Sp := fun vs H Q _ => ∃ v, vs = [v] ∧ ((∃ p xs, v = .ref p ∧ H p = some (.tup xs) ∧ (∀ x ∈ xs, Kd H x) ∧ ∀ b H', Same H H' → (b = true ↔ ∃ m n, xs = [.bl m, .int n] ∧ W45 n ∧ (m = true → Law n)) → Q (.bl b) H') ∨ (NoT H v ∧ ∀ H', Same H H' → Q (.bl false) H'))
theorem ok_is_lawful {f : Addr} {fd : FuncData} (F : Fun K "is_lawful" "is_lawful" s_is_lawful f fd) (T : Txt K w mg) (C_is_word : Cal P w K mg base "is_word" 2 ["thing"] (sp_is_word K)) (C__may_be_marked : Cal P w K mg base "_may_be_marked" 3 ["bits"] (sp__may_be_marked K)) : FnOk P w K mg base CX0 4 f fd ["thing"] (sp_is_lawful K) := by
  refine F.ok sc_is_lawful (fun vs H Q E h => ?_) (fun cdv A outer s H vs Q E hr h => ?_)
  · obtain ⟨v, rfl, q⟩ := h; rfl
  · obtain ⟨v, rfl, q⟩ := h
    refine ⟨_, (pss_cons (ps_if (pt_not (pt_val (pe_cal C_is_word (hr.mono (by decide)) (pa_cons (pv 0) pa_nil)))) (pss_one (ps_ret pe_bl)) pss_nil)
      (pss_cons (ps_asg (pv 0) (pg_tup rfl (pgs_cons (pg_name (i := 1) sc_is_lawful.nd rfl (.inl rfl)) (pgs_cons (pg_name (i := 2) sc_is_lawful.nd rfl (.inl rfl)) pgs_nil))))
      (pss_one (ps_ret (pe_or (pe_not (pv 1)) (pe_one (pe_cal C__may_be_marked (hr.mono (by decide)) (pa_cons (pv 2) pa_nil)))))))), ?_⟩
    rcases q with ⟨p, xs, rfl, hp, hk, q⟩ | ⟨nt, q⟩
    · refine ⟨_, rfl, _, rfl, .inl ⟨p, xs, rfl, hp, hk, fun b hb => ⟨_, rfl, ifnb (fun e => ?_) (fun e => ?_)⟩⟩⟩
      · show Q (.bl false) H
        refine q _ _ (Same.refl _) ⟨fun h => Bool.noConfusion h, fun ⟨m, n, e1, e2, _⟩ => ?_⟩
        rw [hb.mpr ⟨m, n, e1, e2⟩] at e; cases e
      obtain ⟨m, n, rfl, hw⟩ := hb.mp e
      refine ⟨_, rfl, p, _, rfl, .of hp, rfl, _, _, rfl, _, _, rfl, rfl, ?_⟩
      refine ⟨_, rfl, m, rfl, !m, rfl, ?_⟩
      cases m with
      | false =>
        show Q (.bl true) H
        exact q _ _ (Same.refl _) ⟨fun _ => ⟨false, n, rfl, hw, fun h => Bool.noConfusion h⟩, fun _ => rfl⟩
      | true =>
        refine ⟨_, rfl, n, rfl, hw.1, fun c H1 s1 hc => q _ _ s1 ?_⟩
        rw [hc]
        constructor
        · intro h
          exact ⟨true, n, rfl, hw, fun _ => h⟩
        · rintro ⟨m', n', e2, _, h⟩
          injection e2 with e3 e2
          injection e2 with e2 _
          cases e2
          cases e3
          exact h rfl
    · refine ⟨_, rfl, _, rfl, .inr ⟨nt, ⟨_, rfl, ?_⟩⟩⟩
      show Q (.bl false) H
      exact q _ (Same.refl _)

def sp_shown_word (K : PySem.W.Frag) : Sp := fun vs H Q _ => ∃ p m b, vs = [.ref p] ∧ H p = some (.tup [.bl m, .int b]) ∧ W45 b ∧ (m = true → Law b) ∧ ∀ z H', Same H H' → WT z m b → Q (.str (SX.S z)) H'
theorem ok_shown_word {f : Addr} {fd : FuncData} (F : Fun K "shown_word" "shown_word" s_shown_word f fd) (T : Txt K w mg) (C_fields_of : Cal P w K mg base "fields_of" 3 ["word"] (sp_fields_of K)) : FnOk P w K mg base CX0 4 f fd ["word"] (sp_shown_word K) := by
  refine F.ok sc_shown_word (fun vs H Q E h => ?_) (fun cdv A outer s H vs Q E hr h => ?_)
  · obtain ⟨p, m, b, rfl, hp, hw, hl, q⟩ := h; rfl
  · obtain ⟨p, m, b, rfl, hp, hw, hl, q⟩ := h
    refine ⟨_, (pss_cons (ps_asg (pv 0) (pg_tup rfl (pgs_cons (pg_name (i := 1) sc_shown_word.nd rfl (.inl rfl)) (pgs_cons (pg_name (i := 2) sc_shown_word.nd rfl (.inl rfl)) pgs_nil))))
      (pss_cons (ps_if (pt_not (pt_val (pv 1))) (pss_one (ps_ret (pe_callTy call_strIS (by rfl) T.z_str (by decide +kernel) (pa_cons (pv 2) pa_nil)))) pss_nil)
      (pss_cons (ps_asg (pe_cal C_fields_of (hr.mono (by decide)) (pa_cons (pv 0) pa_nil)) (pg_tup rfl (pgs_cons (pg_name (i := 3) sc_shown_word.nd rfl (.inl rfl)) (pgs_cons (pg_name (i := 4) sc_shown_word.nd rfl (.inl rfl)) (pgs_cons (pg_name (i := 5) sc_shown_word.nd rfl (.inl rfl)) (pgs_cons (pg_name (i := 6) sc_shown_word.nd rfl (.inl rfl)) (pgs_cons (pg_name (i := 7) sc_shown_word.nd rfl (.inl rfl)) pgs_nil)))))))
      (pss_one (ps_ret (pe_joined (PJ.cons (pe_fmt (pv 3)) (PJ.cons pe_str (PJ.cons (pe_fmt (pv 4)) (PJ.cons pe_str (PJ.cons (pe_fmt (pv 5)) (PJ.cons pe_str (PJ.cons (pe_fmt (pe_orT (pv 6) (pe_one pe_str))) (PJ.cons pe_str (PJ.cons (pe_fmt (pv 7)) PJ.nil))))))))))))))), ?_⟩
    refine ⟨_, rfl, p, _, rfl, .of hp, rfl, _, _, rfl, _, _, rfl, rfl, ?_⟩
    refine ⟨_, rfl, m, rfl, ifnb (fun e => ?_) (fun e => ?_)⟩
    · subst e
      refine ⟨_, rfl, .inl ⟨b, rfl, log_small (by have := hw.1; have := hw.2; omega), ?_⟩⟩
      rw [num_text]
      exact q _ H (Same.refl _) (.inr ⟨rfl, hw, rfl⟩)
    subst e
    have hL := hl rfl
    refine ⟨_, rfl, p, _, b, rfl, hp, hw.1, fun nt => absurd hL.1 nt, fun _ q2 H2 s2 n2 h2 => ?_⟩
    obtain ⟨lo, hi, at', pr, kd, s, ex, W⟩ := wf_of hw hL
    rw [ex] at h2
    obtain ⟨r1, r2, r3, r4, r5, r6, r7, r8⟩ := W.rng
    refine ⟨q2, _, rfl, .of h2, rfl, _, _, rfl, _, _, rfl, _, _, rfl, _, _, rfl, _, _, rfl, rfl, ?_⟩
    have l1 := numI_len (i := lo) (k := 4) (by decide) (by omega)
    have l2 := numI_len (i := hi) (k := 4) (by decide) (by omega)
    have l3 := numI_len (i := at') (k := 4) (by decide) (by omega)
    have l4 := numI_len (i := kd) (k := 2) (by decide) (by omega)
    have l5 : (rtL pr).length ≤ 9 := by
      unfold rtL
      split
      · decide
      · have := rtx_len pr
        simpa using this
    have fin : ∀ R : Str → Hp → Prop, (∀ z, WT z true b → R (SX.S z) H2) → R (SX.S (((((((([] ++ numI lo) ++ [45]) ++ numI hi) ++ [64]) ++ numI at') ++ [58]) ++ rtL pr) ++ [47] ++ numI kd)) H2 := fun R h => h _ (.inl ⟨rfl, lo, hi, at', pr, kd, s, W, by unfold wtx; simp only [List.append_assoc, List.nil_append, List.cons_append]⟩)
    show tJs _ (SX.S []) _ _ _
    refine js_int (a := []) (i := lo) (fun R r => ⟨_, rfl, r⟩) r1 (by omega) ?_ ?_
    · simp only [List.length_append, List.length_cons, List.length_nil]; omega
    refine js_str (y := [45]) (fun R r => (sgn_S 45 "-") ▸ r) ?_ ?_
    · simp only [List.length_append, List.length_cons, List.length_nil]; omega
    refine js_int (i := hi) (fun R r => ⟨_, rfl, r⟩) r3 (by omega) ?_ ?_
    · simp only [List.length_append, List.length_cons, List.length_nil]; omega
    refine js_str (y := [64]) (fun R r => (sgn_S 64 "@") ▸ r) ?_ ?_
    · simp only [List.length_append, List.length_cons, List.length_nil]; omega
    refine js_int (i := at') (fun R r => ⟨_, rfl, r⟩) r5 (by omega) ?_ ?_
    · simp only [List.length_append, List.length_cons, List.length_nil]; omega
    refine js_str (y := [58]) (fun R r => (sgn_S 58 ":") ▸ r) ?_ ?_
    · simp only [List.length_append, List.length_cons, List.length_nil]; omega
    refine js_fstr (y := rtL pr) (fun R r => ⟨_, rfl, rt_or r⟩) ?_ ?_
    · simp only [List.length_append, List.length_cons, List.length_nil]; omega
    refine js_str (y := [47]) (fun R r => (sgn_S 47 "/") ▸ r) ?_ ?_
    · simp only [List.length_append, List.length_cons, List.length_nil]; omega
    refine js_int (i := kd) (fun R r => ⟨_, rfl, r⟩) r7 (by omega) ?_ ?_
    · simp only [List.length_append, List.length_cons, List.length_nil]; omega
    exact fin (fun x H' => Q (.str x) H') fun z wz => q z H2 s2 wz

def sp__marked_word_in (K : PySem.W.Frag) : Sp := fun vs H Q _ => ∃ z, vs = [.str (SX.S z)] ∧ z.length ≤ 1000000 ∧ (∀ b q H', MT z b → Same H H' → H q = none → H' q = some (.tup [.bl true, .int b]) → Q (.ref q) H') ∧ ((∀ b, ¬ MT z b) → ∀ H', Same H H' → Q .non H')
theorem ok__marked_word_in {f : Addr} {fd : FuncData} (F : Fun K "_marked_word_in" "_marked_word_in" s__marked_word_in f fd) (T : Txt K w mg) (C_whole_in : Cal P w K mg base "whole_in" 1 ["text"] (sp_whole_in K)) (C_word_of : CalXD P w K mg base "word_of" 8 ["fields", "marked"] [.bl true] (sp_word_of K)) (C_shown_word : Cal P w K mg base "shown_word" 4 ["word"] (sp_shown_word K)) : FnOk P w K mg base CX0 9 f fd ["text"] (sp__marked_word_in K) := by
  obtain ⟨p_NoFields, hk_NoFields, ak_NoFields⟩ := T.k_NoFields
  refine F.ok sc__marked_word_in (fun vs H Q E h => ?_) (fun cdv A outer s H vs Q E hr h => ?_)
  · obtain ⟨z, rfl, hz, q1, q2⟩ := h; rfl
  · obtain ⟨z, rfl, hz, q1, q2⟩ := h
    refine ⟨_, (pss_m1T PySem.F.plainAttrs_str PySem.F.slot_str_partition PySem.F.type_str_partition mt_partS (pv 0) (pg_tup rfl (pgs_cons (pg_name (i := 1) sc__marked_word_in.nd rfl (.inl rfl)) (pgs_cons (pg_name (i := 2) sc__marked_word_in.nd rfl (.inl rfl)) (pgs_cons (pg_name (i := 3) sc__marked_word_in.nd rfl (.inl rfl)) pgs_nil))))
      (psst_cons (PST.of (ps_asg (pe_bm PySem.F.plainAttrs_str PySem.F.slot_str_partition PySem.F.type_str_partition mt_partS (pv 1) (pa_cons pe_str pa_nil)) (pg_tup rfl (pgs_cons (pg_name (i := 4) sc__marked_word_in.nd rfl (.inl rfl)) (pgs_cons (pg_name (i := 2) sc__marked_word_in.nd rfl (.inl rfl)) (pgs_cons (pg_name (i := 5) sc__marked_word_in.nd rfl (.inl rfl)) pgs_nil))))))
      (psst_cons (PST.of (ps_asg (pe_bm PySem.F.plainAttrs_str PySem.F.slot_str_partition PySem.F.type_str_partition mt_partS (pv 3) (pa_cons pe_str pa_nil)) (pg_tup rfl (pgs_cons (pg_name (i := 6) sc__marked_word_in.nd rfl (.inl rfl)) (pgs_cons (pg_name (i := 2) sc__marked_word_in.nd rfl (.inl rfl)) (pgs_cons (pg_name (i := 3) sc__marked_word_in.nd rfl (.inl rfl)) pgs_nil))))))
      (psst_cons (PST.of (ps_asg (pe_bm PySem.F.plainAttrs_str PySem.F.slot_str_partition PySem.F.type_str_partition mt_partS (pv 3) (pa_cons pe_str pa_nil)) (pg_tup rfl (pgs_cons (pg_name (i := 7) sc__marked_word_in.nd rfl (.inl rfl)) (pgs_cons (pg_name (i := 2) sc__marked_word_in.nd rfl (.inl rfl)) (pgs_cons (pg_name (i := 8) sc__marked_word_in.nd rfl (.inl rfl)) pgs_nil))))))
      (psst_cons (pst_set (i := 9) sc__marked_word_in.nd rfl (.inl rfl) (pet_tup (pat_cons (CwR.PET.of (pe_cal C_whole_in (hr.mono (by decide)) (pa_cons (pv 4) pa_nil))) (pat_cons (CwR.PET.of (pe_cal C_whole_in (hr.mono (by decide)) (pa_cons (pv 5) pa_nil))) (pat_cons (CwR.PET.of (pe_cal C_whole_in (hr.mono (by decide)) (pa_cons (pv 6) pa_nil))) (pat_cons (CwR.pet_replC (pv 7)) (pat_cons (CwR.PET.of (pe_cal C_whole_in (hr.mono (by decide)) (pa_cons (pv 8) pa_nil))) pat_nil)))))))
      (PSsT.of (pss_cons (ps_try_only (c := .ref p_NoFields) (Wout := fun _ _ _ _ => False) rfl rfl ⟨rfl, by decide, .inl hk_NoFields⟩ takes0
      (fun W pn xe tk _ => (pss_one (ps_set (i := 10) sc__marked_word_in.nd rfl (.inl rfl) (by exact (pe_calXD C_word_of (hr.mono (by decide)) tk (by exact (pa_cons (pv 9) pa_nil)))))))
      (fun a oe cls d pn hz hf => (pss_one (ps_ret pe_non))))
      (pss_one (ps_ret (pe_ifExp (pt_cmpR op_eq (pe_cal C_shown_word (hr.mono (by decide)) (pa_cons (pv 10) pa_nil)) (pv 0) (nomark _)) (pv 10) pe_non)))))))))), ?_⟩
    have k1 := cut_len 64 z
    have k2 := cut_len 45 (cutA 64 z)
    have k3 := cut_len 58 (cutB 64 z)
    have k4 := cut_len 47 (cutB 58 (cutB 64 z))
    refine ⟨_, rfl, rfl, 64, z, rfl, sgnV 64 "@", hz, fun p1 m1 n1 => ?_⟩
    have S1 := same_new (o := .tup [.str (SX.S (cutA 64 z)), .str m1, .str (SX.S (cutB 64 z))]) n1
    refine ⟨p1, _, rfl, .of upd_same, rfl, _, _, rfl, _, _, rfl, _, _, rfl, rfl, ?_⟩
    generalize upd H p1 _ = H1 at S1 ⊢
    refine ⟨_, rfl, rfl, 45, _, rfl, sgnV 45 "-", by omega, fun p2 m2 n2 => ?_⟩
    replace S1 := S1.trans (same_new (o := .tup [.str (SX.S (cutA 45 (cutA 64 z))), .str m2, .str (SX.S (cutB 45 (cutA 64 z)))]) n2)
    refine ⟨p2, _, rfl, .of upd_same, rfl, _, _, rfl, _, _, rfl, _, _, rfl, rfl, ?_⟩
    generalize upd H1 p2 _ = H2 at S1 ⊢
    refine ⟨_, rfl, rfl, 58, _, rfl, sgnV 58 ":", by omega, fun p3 m3 n3 => ?_⟩
    replace S1 := S1.trans (same_new (o := .tup [.str (SX.S (cutA 58 (cutB 64 z))), .str m3, .str (SX.S (cutB 58 (cutB 64 z)))]) n3)
    refine ⟨p3, _, rfl, .of upd_same, rfl, _, _, rfl, _, _, rfl, _, _, rfl, rfl, ?_⟩
    generalize upd H2 p3 _ = H3 at S1 ⊢
    refine ⟨_, rfl, rfl, 47, _, rfl, sgnV 47 "/", by omega, fun p4 m4 n4 => ?_⟩
    replace S1 := S1.trans (same_new (o := .tup [.str (SX.S (cutA 47 (cutB 58 (cutB 64 z)))), .str m4, .str (SX.S (cutB 47 (cutB 58 (cutB 64 z))))]) n4)
    refine ⟨p4, _, rfl, .of upd_same, rfl, _, _, rfl, _, _, rfl, _, _, rfl, rfl, ?_⟩
    generalize upd H3 p4 _ = H4 at S1 ⊢
    clear n1 n2 n3 n4
    refine ⟨_, rfl, pLo z, rfl, by unfold pLo; omega, ?_⟩
    refine ⟨_, rfl, pHi z, rfl, by unfold pHi; omega, ?_⟩
    refine ⟨_, rfl, pAt z, rfl, by unfold pAt; omega, ?_⟩
    refine ⟨_, rfl, _, rfl, by rw [nil_S, SX.S_len]; show _ + (_ + 1) * 0 ≤ _; omega, ?_⟩
    rw [show Txt.replace (SX.S (cutA 47 (cutB 58 (cutB 64 z)))) (Str.ofString "-") (Str.ofString "") = SX.S (stk (pRt z)) from by rw [minus_S, nil_S]; exact strike_S _]
    refine ⟨_, rfl, pKd z, rfl, by unfold pKd; omega, ?_⟩
    refine ⟨sz (by simp), fun p5 n5 => ?_⟩
    replace S1 := S1.trans (same_new (o := .tup (vs5 z)) n5)
    have e5 : (upd H4 p5 (.tup (vs5 z))) p5 = some (.tup (vs5 z)) := upd_same
    change (gName 9) (.ref p5) _ (upd H4 p5 (.tup (vs5 z))) _
    generalize upd H4 p5 _ = H5 at S1 e5 ⊢
    clear n5
    refine ⟨_, rfl, .ref p5, .bl true, rfl, .inl ⟨p5, vs5 z, rfl, e5, ?_, fun lo hi at' r kd ex hf s q H6 hs sm hq hq2 => ?_, fun nf C d v H6 hC sm hd => ?_⟩⟩
    · exact lcons (kd_vW _) (lcons (kd_vW _) (lcons (kd_vW _) (lcons (.str _) (lcons (kd_vW _) lnil))))
    · rw [ex] at hf
      obtain ⟨_, _, _, _, _, ex', bd, ⟨s0, hex⟩, a0, a1, k0, k1, hr5, how⟩ := id hf
      cases ex'
      have W : WF (wbits lo hi at' (maskOf r) kd s0) lo hi at' (hasR r) kd s0 := ⟨bd, hex, a0, a1, k0, k1, by rw [← hr5]; exact how, by rw [← hr5]⟩
      have es : s0 = s := hex.1.uniq hs
      subst es
      rw [hr5] at ex
      generalize wbits lo hi at' (maskOf r) kd s0 = b at hq2 W
      refine ⟨_, rfl, q, true, b, rfl, hq2, W.all.1, fun _ => W.all.2.1, fun y H7 s7 wy => ?_⟩
      have my : MT y b := wy.elim (fun h => h.2) fun h => nomatch h.1
      refine ⟨_, rfl, rfl, _, rfl, ifd (fun c => ?_) (fun c => ?_)⟩
      · have e : y = z := SX.S_inj (V.str.inj c)
        subst e
        exact ⟨_, rfl, q1 b q H7 my (S1.trans (sm.trans s7)) (none_back S1 hq) (s7 _ _ hq2)⟩
      · refine q2 (fun b' mb => c ?_) H7 (S1.trans (sm.trans s7))
        have e : b' = b := mb.vs ex W
        subst e
        rw [my.text mb]
    · refine ⟨true, T.x_NoFields_NoFields _ _ hC ak_NoFields, fun _ a na => ?_, fun z => nomatch z⟩
      exact q2 (fun b mb => nf mb.f5) _ (S1.trans (sameN sm hd))

def sp_read_word (K : PySem.W.Frag) : Sp := fun vs H Q E => ∃ v d, vs = [v] ∧ Dx H v d ∧ (∀ s, d = .str s → s.cps.toList.length ≤ 1000000) ∧ (∀ s m b q H', d = .str s → RT2 s.cps.toList m b → Same H H' → H q = none → H' q = some (.tup [.bl m, .int b]) → Q (.ref q) H') ∧ ((∀ s m b, d = .str s → ¬ RT2 s.cps.toList m b) → LetsV K "NoText" "number" (.int 0) H E)
theorem ok_read_word {f : Addr} {fd : FuncData} (F : Fun K "read_word" "read_word" s_read_word f fd) (T : Txt K w mg) (C_whole_in : Cal P w K mg base "whole_in" 1 ["text"] (sp_whole_in K)) (C_is_word : Cal P w K mg base "is_word" 2 ["thing"] (sp_is_word K)) (C__marked_word_in : Cal P w K mg base "_marked_word_in" 9 ["text"] (sp__marked_word_in K)) (R_NoText : ErrK P w K mg base "NoText" "number") : FnOk P w K mg base (L2.CX P w) 10 f fd ["text"] (sp_read_word K) := by
  refine F.okX sc_read_word (fun vs H Q E h => ?_) (fun cdv A outer s H vs Q E hr h => ?_)
  · obtain ⟨v, d, rfl, hd, hs, q, bad⟩ := h; rfl
  · obtain ⟨v, d, rfl, hd, hs, q, bad⟩ := h
    refine ⟨_, (pss_cons (ps_if (pt_not (pt_val (pe_callB call_isi (by rfl) T.z_isinstance (by decide +kernel) (pa_cons (pv 0) (pa_cons (pe_bltn (v := .ty "str") (by rfl) T.z_str (by decide +kernel) rfl) pa_nil))))) (pss_one (ps_raise rfl (takes_of rfl rfl rfl rfl) (by exact (pmk_err R_NoText (hr.mono (by decide)) pe_int)))) pss_nil)
      (pss_cons (ps_set (i := 1) sc_read_word.nd rfl (.inl rfl) (pe_ifExp (pt_cmpR op_in_sign pe_str (pv 0) (by rfl)) (pe_cal C__marked_word_in (hr.mono (by decide)) (pa_cons (pv 0) pa_nil)) (pe_tup (pa_cons pe_bl (pa_cons (pe_cal C_whole_in (hr.mono (by decide)) (pa_cons (pv 0) pa_nil)) pa_nil)))))
      (pss_cons (ps_if (pt_not (pt_val (pe_cal C_is_word (hr.mono (by decide)) (pa_cons (pv 1) pa_nil)))) (pss_one (ps_raise rfl (takes_of rfl rfl rfl rfl) (by exact (pmk_err R_NoText (hr.mono (by decide)) pe_int)))) pss_nil)
      (PSs.nox (pss_one (ps_ret (pv 1))))))), ?_⟩
    obtain ⟨t, ty, kt⟩ := hd.str? (K := K)
    refine ⟨_, rfl, _, _, t, _, dStr d, rfl, .ty "str", ty, kt, dStr d, rfl, ifnb (fun c => ?_) (fun c => ?_)⟩
    · exact fun C x hC hx => bad (fun s m b e => by subst e; cases c) C x _ hC (Same.refl _) hx
    obtain ⟨s0, rfl⟩ : ∃ s, d = .str s := by cases d <;> first | exact ⟨_, rfl⟩ | cases c
    cases hd.str_of
    obtain ⟨z, rfl⟩ : ∃ z, s0 = SX.S z := ⟨s0.cps.toList, (S_back s0).symm⟩
    have hz : z.length ≤ 1000000 := hs _ rfl
    replace q : ∀ m b q H', RT2 z m b → Same H H' → H q = none → H' q = some (.tup [.bl m, .int b]) → Q (.ref q) H' := fun m b q' H' h => q (SX.S z) m b q' H' rfl h
    replace bad : (∀ m b, ¬ RT2 z m b) → LetsV K "NoText" "number" (.int 0) H E := fun h => bad fun s m b e => by cases e; exact h m b
    refine ⟨_, rfl, 64, SX.S z, by decide +kernel, rfl, _, rfl, ifd (fun c => ?_) (fun c => ?_)⟩
    · refine ⟨_, rfl, z, rfl, hz, fun b q1 H1 mb s1 n1 h1 => ?_, fun nb H1 s1 => ?_⟩
      · refine ⟨_, rfl, .ref q1, rfl, .inl ⟨q1, _, rfl, h1, lcons (.bl _) (lcons (.int _) lnil), fun bb hb => ⟨bb, rfl, ifnb (fun e => ?_) (fun e => ?_)⟩⟩⟩
        · have := hb.mpr ⟨true, b, rfl, mb.law.1⟩
          rw [e] at this; cases this
        · exact ⟨_, rfl, q true b q1 H1 (.inl ⟨c, rfl, mb⟩) s1 n1 h1⟩
      · refine ⟨_, rfl, .non, rfl, .inr ⟨.non, ⟨false, rfl, ifnb (fun _ => ?_) (fun e => nomatch e)⟩⟩⟩
        refine fun C d hC hd => bad (fun m b h => ?_) C d _ hC s1 hd
        rcases h with ⟨_, _, h⟩ | ⟨nc, _⟩
        · exact nb b h
        · exact nc c
    · refine ⟨_, rfl, z, rfl, hz, sz (by simp), fun p hp => ?_⟩
      have S1 := same_new (o := .tup [.bl false, vW z]) hp
      have e1 : (upd H p (.tup [.bl false, vW z])) p = some (.tup [.bl false, vW z]) := upd_same
      generalize upd H p _ = H1 at S1 e1 ⊢
      refine ⟨_, rfl, .ref p, rfl, .inl ⟨p, _, rfl, e1, lcons (.bl _) (lcons (kd_vW _) lnil), fun bb hb => ⟨bb, rfl, ifnb (fun e => ?_) (fun e => ?_)⟩⟩⟩
      · refine fun C d hC hd => bad (fun m b h => ?_) C d _ hC S1 hd
        rcases h with ⟨c', _⟩ | ⟨_, _, w, h⟩
        · exact c c'
        · have := hb.mpr ⟨false, b, by rw [vW_int.mpr h], w⟩
          rw [e] at this; cases this
      · obtain ⟨m, n, ex, w⟩ := hb.mp e
        injection ex with x1 ex
        injection ex with x2 ex
        have x1 := V.bl.inj x1
        subst x1
        rw [x2] at e1
        exact ⟨_, rfl, q false n p H1 (.inr ⟨c, rfl, w, vW_int.mp x2⟩) S1 hp e1⟩

def sp__law_take (K : PySem.W.Frag) : Sp := fun vs H Q _ => ∃ (a : Addr) (x y m : Int), vs = [.ref a, .int m] ∧ Pool H a x y ∧ 0 < m ∧ m < 1073741824 ∧ ∀ r x1 y1, 0 ≤ r → r < m → Pool (upd H a (.lst [.int x1, .int y1])) a x1 y1 → Q (.int r) (upd H a (.lst [.int x1, .int y1]))
theorem ok__law_take {f : Addr} {fd : FuncData} (F : Fun K "_law_take" "_law_take" s__law_take f fd) (T : Txt K w mg) : FnOk P w K mg base CX0 1 f fd ["_law_pool_here", "_law_many"] (sp__law_take K) := by
  refine F.ok sc__law_take (fun vs H Q E h => ?_) (fun cdv A outer s H vs Q E hr h => ?_)
  · obtain ⟨a, x, y, m, rfl, hp, hm, hm2, q⟩ := h; rfl
  · obtain ⟨a, x, y, m, rfl, hp, hm, hm2, q⟩ := h
    refine ⟨_, (pss_cons (ps_if (pt_cmpR op_gt (pe_ix (r := rIxL K) ix_list (pv 0) pe_int (fun _ _ => rfl)) pe_int (nomark _)) (pss_cons (ps_set (i := 2) sc__law_take.nd rfl (.inl rfl) (pe_op op_mod (pe_ix (r := rIxL K) ix_list (pv 0) pe_int (fun _ _ => rfl)) (pv 1)))
      (pss_cons (ps_asg (pe_op op_fdiv (pe_ix (r := rIxL K) ix_list (pv 0) pe_int (fun _ _ => rfl)) (pv 1)) (pg_sub (pv 0) pe_int set_list))
      (pss_one (ps_ret (pv 2))))) pss_nil)
      (pss_cons (ps_asg (pe_op op_mod (pe_op op_add (pe_op op_mul (pe_ix (r := rIxL K) ix_list (pv 0) pe_int (fun _ _ => rfl)) pe_int) pe_int) pe_int) (pg_sub (pv 0) pe_int set_list))
      (pss_one (ps_ret (pe_op op_mod (pe_op op_fdiv (pe_op op_mod (pe_op op_mul (pe_ix (r := rIxL K) ix_list (pv 0) pe_int (fun _ _ => rfl)) (pe_ix (r := rIxL K) ix_list (pv 0) pe_int (fun _ _ => rfl))) pe_int) pe_int) (pv 1)))))), ?_⟩
    obtain ⟨hp, x0, y0, y1⟩ := hp
    refine ⟨_, rfl, a, _, 0, _, rfl, rfl, .of hp, atI_nat (j := 0) rfl, _, _, rfl, rfl, _, rfl, ifd (fun c => ?_) (fun c => ?_)⟩
    · refine ⟨_, rfl, a, _, 0, _, rfl, rfl, .of hp, atI_nat (j := 0) rfl, _, rfl, _, _, rfl, rfl, hm, ?_⟩
      refine ⟨_, rfl, a, _, 0, _, rfl, rfl, .of hp, atI_nat (j := 0) rfl, _, rfl, _, _, rfl, rfl, ⟨hm, hm2⟩, ?_⟩
      refine ⟨_, rfl, a, _, 0, 0, rfl, rfl, hp, rfl, ?_⟩
      refine ⟨_, rfl, q (x % m) (x / m) y (Int.emod_nonneg _ (by omega)) (Int.emod_lt_of_pos _ hm) ⟨upd_same, Int.ediv_nonneg x0 (by omega), y0, y1⟩⟩
    · refine ⟨_, rfl, a, _, 1, _, rfl, rfl, .of hp, atI_nat (j := 1) rfl, _, _, rfl, rfl, .inr ⟨by decide, by decide⟩, _, _, rfl, rfl, _, _, rfl, rfl, (by show (0 : Int) < _; decide), ?_⟩
      refine ⟨_, rfl, a, _, 1, 1, rfl, rfl, hp, rfl, ?_⟩
      have u1 : 0 ≤ (y * 48271 + 11) % 2147483647 := Int.emod_nonneg _ (by decide)
      have u2 : (y * 48271 + 11) % 2147483647 < 2147483647 := Int.emod_lt_of_pos _ (by decide)
      refine ⟨_, rfl, a, _, 1, _, rfl, rfl, .of upd_same, atI_nat (j := 1) rfl, _, rfl, a, _, 1, _, rfl, rfl, .of upd_same, atI_nat (j := 1) rfl, _, _, rfl, rfl, .inl ⟨by omega, by omega⟩, _, _, rfl, rfl, (by show (0 : Int) < _; decide), _, _, rfl, rfl, ⟨by decide, by decide⟩, _, rfl, _, _, rfl, rfl, hm, ?_⟩
      exact q _ x ((y * 48271 + 11) % 2147483647) (Int.emod_nonneg _ (by omega)) (Int.emod_lt_of_pos _ hm) ⟨upd_same, x0, u1, u2⟩

def sp__law_pool (K : PySem.W.Frag) : Sp := fun vs H Q _ => ∃ (a : Addr) (ns : List Int) (k : Nat), vs = [.ref a, .int k] ∧ SqL K H a (ns.map V.int) ∧ ns.length ≤ 63 ∧ k ≤ 63 ∧ ∀ x y p H', Same H H' → H p = none → Pool H' p x y → Q (.ref p) H'
theorem ok__law_pool {f : Addr} {fd : FuncData} (F : Fun K "_law_pool" "_law_pool" s__law_pool f fd) (T : Txt K w mg) : FnOk P w K mg base CX0 1 f fd ["_law_script", "_law_k"] (sp__law_pool K) := by
  refine F.ok sc__law_pool (fun vs H Q E h => ?_) (fun cdv A outer s H vs Q E hr h => ?_)
  · obtain ⟨a, ns, k, rfl, hS, hlen, hk, q⟩ := h; rfl
  · obtain ⟨a, ns, k, rfl, hS, hlen, hk, q⟩ := h
    refine ⟨_, (pss_cons (ps_set (i := 2) sc__law_pool.nd rfl (.inl rfl) (pe_op op_add (pe_op op_mul pe_int (pe_callB (cr_sum rfl) (by rfl) T.z_sum (by decide +kernel) (pa_cons (pe_slice sl_list (pv 0) po_none (po_some pe_int)) pa_nil))) (pv 1)))
      (pss_cons (ps_if (pt_cmpR op_lt (pv 1) (pe_callB call_len_seq (by rfl) T.z_len (by decide +kernel) (pa_cons (pv 0) pa_nil)) (nomark _)) (pss_one (ps_set (i := 2) sc__law_pool.nd rfl (.inl rfl) (pe_ix (r := rIxL K) ix_list (pv 0) (pv 1) (fun _ _ => rfl)))) pss_nil)
      (pss_cons (ps_set (i := 3) sc__law_pool.nd rfl (.inl rfl) (pe_callB call_abs (by rfl) T.z_abs (by decide +kernel) (pa_cons (pv 2) pa_nil)))
      (pss_cons (ps_set (i := 4) sc__law_pool.nd rfl (.inl rfl) (pe_op op_mod (pe_op op_mul (pe_op op_add (pe_op op_add (pe_op op_add (pe_op op_mod (pv 3) pe_int) (pe_op op_mul (pe_op op_mul pe_int (pv 1)) (pv 1))) (pe_op op_mul pe_int (pv 1))) pe_int) pe_int) pe_int))
      (pss_one (ps_ret (pe_lst (pa_cons (pe_op op_mul (pv 3) (pe_callTy call_int1 (by rfl) T.z_int (by decide +kernel) (pa_cons (pe_cmpR op_ge (pv 3) (pe_op op_pow pe_int pe_int) (nomark _)) pa_nil))) (pa_cons (pe_op op_mod (pe_op op_mul (pv 4) (pv 4)) pe_int) pa_nil))))))))), ?_⟩
    refine ⟨_, rfl, _, rfl, a, _, rfl, hS, fun p hp => ?_⟩
    have s1 : Same H (upd H p (.lst (cutV (ns.map V.int) none (some 63)))) := same_new hp
    have hS1 : SqL K (upd H p (.lst (cutV (ns.map V.int) none (some 63)))) a (ns.map V.int) := s1.seq hS
    refine ⟨p, ns, rfl, .of (by rw [upd_same, cut63 hlen]), _, _, rfl, rfl, .inl ⟨by decide, by decide⟩, _, rfl, _, _, rfl, rfl, ?_⟩
    refine ⟨_, rfl, _, rfl, a, _, rfl, .inl hS1, _, _, rfl, rfl, _, rfl, ifd (fun c => ?_) (fun c => ?_)⟩
    · rw [List.length_map] at c
      have hk2 : k < ns.length := by omega
      refine ⟨_, rfl, _, rfl, a, _, (k : Int), .int ns[k], rfl, rfl, hS1, atI_nat (by rw [List.getElem?_map, List.getElem?_eq_getElem hk2]; rfl), ?_⟩
      refine ⟨_, rfl, _, rfl, ?_⟩
      refine ⟨_, rfl, _, _, rfl, rfl, (by show (0 : Int) < _; decide), _, rfl, _, _, rfl, rfl, .inl ⟨by decide, by decide⟩, _, rfl, _, _, rfl, rfl, .inr ⟨by omega, by omega⟩, _, _, rfl, rfl, _, rfl, _, _, rfl, rfl, .inl ⟨by decide, by decide⟩, _, _, rfl, rfl, _, _, rfl, rfl, _, _, rfl, rfl, .inr ⟨by decide, by decide⟩, _, _, rfl, rfl, (by show (0 : Int) < _; decide), ?_⟩
      refine ⟨_, rfl, _, rfl, _, _, rfl, rfl, ⟨by decide, by decide, by decide⟩, _, _, rfl, rfl, .inr ⟨_, rfl, _, _, rfl, rfl, .inr (b01 _), ?_⟩⟩
      refine ⟨_, rfl, _, rfl, _, _, rfl, rfl, .inl (mixb _), _, _, rfl, rfl, (by show (0 : Int) < _; decide), sz (by simp), fun p2 hp2 => ?_⟩
      exact q _ _ p2 _ (sameN s1 hp2) (Same.free s1 hp2) ⟨upd_same, sizeb _ _, Int.emod_nonneg _ (by decide), Int.lt_trans (Int.emod_lt_of_pos _ (by decide)) (by decide)⟩
    · refine ⟨_, rfl, _, rfl, ?_⟩
      refine ⟨_, rfl, _, _, rfl, rfl, (by show (0 : Int) < _; decide), _, rfl, _, _, rfl, rfl, .inl ⟨by decide, by decide⟩, _, rfl, _, _, rfl, rfl, .inr ⟨by omega, by omega⟩, _, _, rfl, rfl, _, rfl, _, _, rfl, rfl, .inl ⟨by decide, by decide⟩, _, _, rfl, rfl, _, _, rfl, rfl, _, _, rfl, rfl, .inr ⟨by decide, by decide⟩, _, _, rfl, rfl, (by show (0 : Int) < _; decide), ?_⟩
      refine ⟨_, rfl, _, rfl, _, _, rfl, rfl, ⟨by decide, by decide, by decide⟩, _, _, rfl, rfl, .inr ⟨_, rfl, _, _, rfl, rfl, .inr (b01 _), ?_⟩⟩
      refine ⟨_, rfl, _, rfl, _, _, rfl, rfl, .inl (mixb _), _, _, rfl, rfl, (by show (0 : Int) < _; decide), sz (by simp), fun p2 hp2 => ?_⟩
      exact q _ _ p2 _ (sameN s1 hp2) (Same.free s1 hp2) ⟨upd_same, sizeb _ _, Int.emod_nonneg _ (by decide), Int.lt_trans (Int.emod_lt_of_pos _ (by decide)) (by decide)⟩

def sp__law_bits (K : PySem.W.Frag) : Sp := fun vs H Q _ => ∃ a f c s r k, vs = [.int a, .int f, .int c, .int s, .int r, .int k] ∧ BW f ∧ BW (c - 1) ∧ BW s ∧ BW r ∧ BW k ∧ Q (.int (a + f * 4096 + (c - 1) * 16777216 + s * 268435456 + r * 4294967296 + k * 2199023255552)) H
theorem ok__law_bits {f : Addr} {fd : FuncData} (F : Fun K "_law_bits" "_law_bits" s__law_bits f fd) (T : Txt K w mg) : FnOk P w K mg base CX0 1 f fd ["_law_at", "_law_first", "_law_count", "_law_step", "_law_rights", "_law_kind"] (sp__law_bits K) := by
  refine F.ok sc__law_bits (fun vs H Q E h => ?_) (fun cdv A outer s H vs Q E hr h => ?_)
  · obtain ⟨a, f1, c, s1, r, k, rfl, bf, bc, bs, br, bk, q⟩ := h; rfl
  · obtain ⟨a, f1, c, s1, r, k, rfl, bf, bc, bs, br, bk, q⟩ := h
    refine ⟨_, (pss_one (ps_ret (pe_op op_add (pe_op op_add (pe_op op_add (pe_op op_add (pe_op op_add (pv 0) (pe_op op_shl (pv 1) pe_int)) (pe_op op_shl (pe_op op_sub (pv 2) pe_int) pe_int)) (pe_op op_shl (pv 3) pe_int)) (pe_op op_shl (pv 4) pe_int)) (pe_op op_shl (pv 5) pe_int)))), ?_⟩
    refine ⟨_, rfl, _, rfl, _, _, rfl, rfl, cpw bf.1 bf.2 (by decide) (by decide), _, _, rfl, rfl, _, rfl, _, _, rfl, rfl, _, _, rfl, rfl, cpw bc.1 bc.2 (by decide) (by decide), _, _, rfl, rfl, _, rfl, _, _, rfl, rfl, cpw bs.1 bs.2 (by decide) (by decide), _, _, rfl, rfl, _, rfl, _, _, rfl, rfl, cpw br.1 br.2 (by decide) (by decide), _, _, rfl, rfl, _, rfl, _, _, rfl, rfl, cpw bk.1 bk.2 (by decide) (by decide), _, _, rfl, rfl, q⟩

def sp__law_mask (K : PySem.W.Frag) : Sp := fun vs H Q _ => ∃ (a : Addr) (x y : Int), vs = [.ref a] ∧ Pool H a x y ∧ ∀ r x1 y1 H', 0 ≤ r → r < 512 → But a H H' → Pool H' a x1 y1 → Q (.int r) H'
theorem ok__law_mask {f : Addr} {fd : FuncData} (F : Fun K "_law_mask" "_law_mask" s__law_mask f fd) (T : Txt K w mg) (C__law_take : Cal P w K mg base "_law_take" 1 ["_law_pool_here", "_law_many"] (sp__law_take K)) : FnOk P w K mg base CX0 2 f fd ["_law_pool_here"] (sp__law_mask K) := by
  refine F.ok sc__law_mask (fun vs H Q E h => ?_) (fun cdv A outer s H vs Q E hr h => ?_)
  · obtain ⟨a, x, y, rfl, hP, q⟩ := h; rfl
  · obtain ⟨a, x, y, rfl, hP, q⟩ := h
    refine ⟨_, (pss_cons (ps_set (i := 1) sc__law_mask.nd rfl (.inl rfl) (pe_op op_mul pe_int (pe_cal C__law_take (hr.mono (by decide)) (pa_cons (pv 0) (pa_cons pe_int pa_nil)))))
      (pss_cons (ps_set (i := 2) sc__law_mask.nd rfl (.inl rfl) (pe_lst (pa_cons (pe_op op_add (pe_cal C__law_take (hr.mono (by decide)) (pa_cons (pv 0) (pa_cons pe_int pa_nil))) (pv 1)) (pa_cons (pe_op op_add pe_int (pv 1)) (pa_cons (pe_op op_add (pv 1) (pe_op op_mul pe_int (pe_op op_add pe_int (pe_cal C__law_take (hr.mono (by decide)) (pa_cons (pv 0) (pa_cons pe_int pa_nil)))))) (pa_cons (pe_cal C__law_take (hr.mono (by decide)) (pa_cons (pv 0) (pa_cons pe_int pa_nil))) pa_nil))))))
      (pss_one (ps_ret (pe_ix (r := rIxL K) ix_list (pv 2) (pe_cal C__law_take (hr.mono (by decide)) (pa_cons (pv 0) (pa_cons pe_int pa_nil))) (fun _ _ => rfl)))))), ?_⟩
    refine ⟨_, rfl, a, x, y, _, rfl, hP, by decide, by decide, fun r1 x1 y1 r10 r11 P1 => ⟨_, _, rfl, rfl, .inl ⟨by decide, by decide⟩, ?_⟩⟩
    refine ⟨_, rfl, a, x1, y1, _, rfl, P1, by decide, by decide, fun r2 x2 y2 r20 r21 P2 => ⟨_, rfl, _, _, rfl, rfl, _, rfl, _, _, rfl, rfl, _, rfl, ?_⟩⟩
    refine ⟨_, rfl, a, x2, y2, _, rfl, P2, by decide, by decide, fun r3 x3 y3 r30 r31 P3 => ⟨_, _, rfl, rfl, _, _, rfl, rfl, .inl ⟨by decide, by decide⟩, _, _, rfl, rfl, ?_⟩⟩
    refine ⟨_, rfl, a, x3, y3, _, rfl, P3, by decide, by decide, fun r4 x4 y4 r40 r41 P4 => ⟨sz (by simp), fun q1 hq1 => ?_⟩⟩
    refine ⟨_, rfl, _, rfl, a, x4, y4, _, rfl, P4.new hq1, by decide, by decide, fun r5 x5 y5 r50 r51 P5 => ?_⟩
    have n1 : q1 ≠ a := (ne_of_none P4.1 hq1).symm
    obtain ⟨lv, hv, z, rfl, z0, z1⟩ := pick (xs := [.int (r2 + 32 * r1), .int (64 + 32 * r1), .int (32 * r1 + 128 * (1 + r3)), .int r4]) (fun v => ∃ z, v = .int z ∧ 0 ≤ z ∧ z < 512) r50 r51 (by
      intro v hv
      simp at hv
      rcases hv with h | h | h | h <;> exact ⟨_, h, by omega, by omega⟩)
    refine ⟨q1, _, _, _, rfl, rfl, .of (by rw [upd_ne n1, upd_same]), hv, ?_⟩
    exact q z x5 y5 _ z0 z1 (But.upd (But.new (But.upd (But.upd (But.upd (But.upd (But.refl _ _))))) hq1)) P5

def sp__law_drawn (K : PySem.W.Frag) : Sp := fun vs H Q _ => ∃ (a : Addr) (x y : Int), vs = [.ref a] ∧ Pool H a x y ∧ ∀ r x1 y1 H', W45 r → But a H H' → Pool H' a x1 y1 → Q (.int r) H'
theorem ok__law_drawn {f : Addr} {fd : FuncData} (F : Fun K "_law_drawn" "_law_drawn" s__law_drawn f fd) (T : Txt K w mg) (C__law_take : Cal P w K mg base "_law_take" 1 ["_law_pool_here", "_law_many"] (sp__law_take K)) (C__law_bits : Cal P w K mg base "_law_bits" 1 ["_law_at", "_law_first", "_law_count", "_law_step", "_law_rights", "_law_kind"] (sp__law_bits K)) (C__law_mask : Cal P w K mg base "_law_mask" 2 ["_law_pool_here"] (sp__law_mask K)) : FnOk P w K mg base CX0 3 f fd ["_law_pool_here"] (sp__law_drawn K) := by
  refine F.ok sc__law_drawn (fun vs H Q E h => ?_) (fun cdv A outer s H vs Q E hr h => ?_)
  · obtain ⟨a, x, y, rfl, hP, q⟩ := h; rfl
  · obtain ⟨a, x, y, rfl, hP, q⟩ := h
    refine ⟨_, (pss_cons (ps_set (i := 1) sc__law_drawn.nd rfl (.inl rfl) (pe_ix (r := rIxL K) ix_list (pe_lst (pa_cons pe_int (pa_cons pe_int (pa_cons pe_int (pa_cons pe_int (pa_cons pe_int (pa_cons pe_int (pa_cons pe_int (pa_cons pe_int (pa_cons pe_int (pa_cons pe_int (pa_cons pe_int (pa_cons pe_int pa_nil))))))))))))) (pe_cal C__law_take (hr.mono (by decide)) (pa_cons (pv 0) (pa_cons pe_int pa_nil))) (fun _ _ => rfl)))
      (pss_cons (ps_set (i := 2) sc__law_drawn.nd rfl (.inl rfl) (pe_ix (r := rIxL K) ix_list (pe_lst (pa_cons (pe_op op_add pe_int (pe_cal C__law_take (hr.mono (by decide)) (pa_cons (pv 0) (pa_cons pe_int pa_nil)))) (pa_cons (pe_op op_add pe_int (pe_cal C__law_take (hr.mono (by decide)) (pa_cons (pv 0) (pa_cons pe_int pa_nil)))) (pa_cons pe_int (pa_cons pe_int (pa_cons pe_int pa_nil)))))) (pe_cal C__law_take (hr.mono (by decide)) (pa_cons (pv 0) (pa_cons pe_int pa_nil))) (fun _ _ => rfl)))
      (pss_cons (ps_set (i := 3) sc__law_drawn.nd rfl (.inl rfl) (pe_callB (call_max2 rfl) (by rfl) T.z_max (by decide +kernel) (pa_cons pe_int (pa_cons (pe_op op_add (pe_op op_sub (pe_op op_shr pe_int (pe_callB (call_min2 rfl) (by rfl) T.z_min (by decide +kernel) (pa_cons (pv 1) (pa_cons pe_int pa_nil)))) (pv 2)) pe_int) pa_nil))))
      (pss_cons (ps_set (i := 4) sc__law_drawn.nd rfl (.inl rfl) (pe_op op_mod (pe_ix (r := rIxL K) ix_list (pe_lst (pa_cons (pe_cal C__law_take (hr.mono (by decide)) (pa_cons (pv 0) (pa_cons (pv 3) pa_nil))) (pa_cons (pe_cal C__law_take (hr.mono (by decide)) (pa_cons (pv 0) (pa_cons pe_int pa_nil))) (pa_cons (pe_op op_sub (pv 3) pe_int) (pa_cons (pv 3) pa_nil))))) (pe_cal C__law_take (hr.mono (by decide)) (pa_cons (pv 0) (pa_cons pe_int pa_nil))) (fun _ _ => rfl)) pe_int))
      (pss_cons (ps_set (i := 5) sc__law_drawn.nd rfl (.inl rfl) (pe_ix (r := rIxL K) ix_list (pe_lst (pa_cons pe_int (pa_cons pe_int (pa_cons pe_int (pa_cons pe_int (pa_cons pe_int (pa_cons (pe_cal C__law_take (hr.mono (by decide)) (pa_cons (pv 0) (pa_cons pe_int pa_nil))) pa_nil))))))) (pe_cal C__law_take (hr.mono (by decide)) (pa_cons (pv 0) (pa_cons pe_int pa_nil))) (fun _ _ => rfl)))
      (pss_cons (ps_set (i := 6) sc__law_drawn.nd rfl (.inl rfl) (pe_ix (r := rIxL K) ix_list (pe_lst (pa_cons (pe_cal C__law_take (hr.mono (by decide)) (pa_cons (pv 0) (pa_cons pe_int pa_nil))) (pa_cons (pe_op op_and (pe_op op_shl (pv 4) (pe_callB (call_min2 rfl) (by rfl) T.z_min (by decide +kernel) (pa_cons (pv 1) (pa_cons pe_int pa_nil)))) pe_int) (pa_cons pe_int pa_nil)))) (pe_cal C__law_take (hr.mono (by decide)) (pa_cons (pv 0) (pa_cons pe_int pa_nil))) (fun _ _ => rfl)))
      (pss_one (ps_ret (pe_cal C__law_bits (hr.mono (by decide)) (pa_cons (pv 6) (pa_cons (pv 4) (pa_cons (pv 2) (pa_cons (pv 1) (pa_cons (pe_cal C__law_mask (hr.mono (by decide)) (pa_cons (pv 0) pa_nil)) (pa_cons (pv 5) pa_nil))))))))))))))), ?_⟩
    refine ⟨sz (by simp), fun q1 hq1 => ?_⟩
    refine ⟨_, rfl, a, x, y, _, rfl, hP.new hq1, by decide, by decide, fun r1 x1 y1 r10 r11 P1 => ?_⟩
    have n1 : q1 ≠ a := (ne_of_none hP.1 hq1).symm
    obtain ⟨v1, hv1, st, rfl, st0, st1⟩ := pick (xs := [.int 0, .int 0, .int 1, .int 2, .int 3, .int 4, .int 5, .int 6, .int 7, .int 8, .int 9, .int 15]) (fun v => ∃ z, v = .int z ∧ 0 ≤ z ∧ z ≤ 15) r10 r11 (by
      intro v hv
      simp at hv
      rcases hv with h | h | h | h | h | h | h | h | h | h | h <;> exact ⟨_, h, by omega, by omega⟩)
    refine ⟨q1, _, _, _, rfl, rfl, .of (by rw [upd_ne n1, upd_same]), hv1, ?_⟩
    have B1 := But.upd (o := .lst [.int x1, .int y1]) (But.new (o := .lst [.int 0, .int 0, .int 1, .int 2, .int 3, .int 4, .int 5, .int 6, .int 7, .int 8, .int 9, .int 15]) (But.refl a H) hq1)
    generalize eH1 : upd (upd H q1 _) a _ = H1 at P1 B1 ⊢
    clear eH1 hv1 n1 hq1 hP
    refine ⟨_, rfl, a, x1, y1, _, rfl, P1, by decide, by decide, fun r2 x2 y2 r20 r21 P2 => ⟨_, _, rfl, rfl, ?_⟩⟩
    refine ⟨_, rfl, a, x2, y2, _, rfl, P2, by decide, by decide, fun r3 x3 y3 r30 r31 P3 => ⟨_, _, rfl, rfl, sz (by simp), fun q2 hq2 => ?_⟩⟩
    refine ⟨_, rfl, a, x3, y3, _, rfl, P3.new hq2, by decide, by decide, fun r4 x4 y4 r40 r41 P4 => ?_⟩
    have n2 : q2 ≠ a := (ne_of_none P3.1 hq2).symm
    obtain ⟨v2, hv2, ct, rfl, ct0, ct1⟩ := pick (xs := [.int (1 + r2), .int (9 + r3), .int 9, .int 16, .int 8]) (fun v => ∃ z, v = .int z ∧ 1 ≤ z ∧ z ≤ 16) r40 r41 (by
      intro v hv
      simp at hv
      rcases hv with h | h | h | h | h <;> exact ⟨_, h, by omega, by omega⟩)
    refine ⟨q2, _, _, _, rfl, rfl, .of (by rw [upd_ne n2, upd_same]), hv2, ?_⟩
    have B2 := But.upd (o := .lst [.int x4, .int y4]) (But.new (o := .lst [.int (1 + r2), .int (9 + r3), .int 9, .int 16, .int 8]) (But.upd (o := .lst [.int x3, .int y3]) (But.upd (o := .lst [.int x2, .int y2]) B1)) hq2)
    generalize eH2 : upd (upd (upd (upd H1 a _) a _) q2 _) a _ = H2 at P4 B2 ⊢
    clear eH2 hv2 n2 hq2 P1 P2 P3 B1
    obtain ⟨sm, esm, sm0, sm1⟩ : ∃ sm : Int, sm = (if 8 < st then 8 else st) ∧ 0 ≤ sm ∧ sm ≤ 8 := ⟨_, rfl, by split <;> omega, by split <;> omega⟩
    refine ⟨_, rfl, _, _, rfl, ?_⟩
    rw [← esm]
    refine ⟨_, _, rfl, rfl, sm0, _, rfl, _, _, rfl, rfl, _, _, rfl, rfl, _, _, rfl, ?_⟩
    have dv : 0 ≤ 4096 / (2 : Int) ^ sm.toNat ∧ 4096 / (2 : Int) ^ sm.toNat ≤ 4096 := div_le' (by decide)
    obtain ⟨wd, ewd, wd0, wd1⟩ : ∃ wd : Int, wd = (if 4096 / (2 : Int) ^ sm.toNat - ct + 1 > 1 then 4096 / (2 : Int) ^ sm.toNat - ct + 1 else 1) ∧ 1 ≤ wd ∧ wd ≤ 4096 := ⟨_, rfl, by split <;> omega, by split <;> omega⟩
    rw [← ewd]
    refine ⟨_, rfl, _, rfl, a, x4, y4, _, rfl, P4, by omega, by omega, fun r5 x5 y5 r50 r51 P5 => ?_⟩
    refine ⟨_, rfl, a, x5, y5, _, rfl, P5, by decide, by decide, fun r6 x6 y6 r60 r61 P6 => ⟨_, rfl, _, _, rfl, rfl, _, rfl, sz (by simp), fun q3 hq3 => ?_⟩⟩
    refine ⟨_, rfl, a, x6, y6, _, rfl, P6.new hq3, by decide, by decide, fun r7 x7 y7 r70 r71 P7 => ?_⟩
    have n3 : q3 ≠ a := (ne_of_none P6.1 hq3).symm
    obtain ⟨v3, hv3, fi', rfl, fi0', fi1'⟩ := pick (xs := [.int r5, .int r6, .int (wd - 1), .int wd]) (fun v => ∃ z, v = .int z ∧ 0 ≤ z ∧ z ≤ 4096) r70 r71 (by
      intro v hv
      simp at hv
      rcases hv with h | h | h | h <;> exact ⟨_, h, by omega, by omega⟩)
    refine ⟨q3, _, _, _, rfl, rfl, .of (by rw [upd_ne n3, upd_same]), hv3, _, _, rfl, rfl, (by show (0 : Int) < _; decide), ?_⟩
    have fi0 : 0 ≤ fi' % 4096 := by omega
    have fi1 : fi' % 4096 ≤ 4095 := by omega
    have B3 := But.upd (o := .lst [.int x7, .int y7]) (But.new (o := .lst [.int r5, .int r6, .int (wd - 1), .int wd]) (But.upd (o := .lst [.int x6, .int y6]) (But.upd (o := .lst [.int x5, .int y5]) B2)) hq3)
    generalize eH3 : upd (upd (upd (upd H2 a _) a _) q3 _) a _ = H3 at P7 B3 ⊢
    clear eH3 hv3 n3 hq3 P4 P5 P6 B2
    refine ⟨_, rfl, a, x7, y7, _, rfl, P7, by decide, by decide, fun r8 x8 y8 r80 r81 P8 => ⟨sz (by simp), fun q4 hq4 => ?_⟩⟩
    refine ⟨_, rfl, a, x8, y8, _, rfl, P8.new hq4, by decide, by decide, fun r9 x9 y9 r90 r91 P9 => ?_⟩
    have n4 : q4 ≠ a := (ne_of_none P8.1 hq4).symm
    obtain ⟨v4, hv4, kd, rfl, kd0, kd1⟩ := pick (xs := [.int 0, .int 0, .int 1, .int 2, .int 3, .int r8]) (fun v => ∃ z, v = .int z ∧ 0 ≤ z ∧ z ≤ 15) r90 r91 (by
      intro v hv
      simp at hv
      rcases hv with h | h | h | h | h <;> exact ⟨_, h, by omega, by omega⟩)
    refine ⟨q4, _, _, _, rfl, rfl, .of (by rw [upd_ne n4, upd_same]), hv4, ?_⟩
    have B4 := But.upd (o := .lst [.int x9, .int y9]) (But.new (o := .lst [.int 0, .int 0, .int 1, .int 2, .int 3, .int r8]) (But.upd (o := .lst [.int x8, .int y8]) B3) hq4)
    generalize eH4 : upd (upd (upd H3 a _) q4 _) a _ = H4 at P9 B4 ⊢
    clear eH4 hv4 n4 hq4 P7 P8 B3
    refine ⟨_, rfl, a, x9, y9, _, rfl, P9, by decide, by decide, fun ra xa ya ra0 ra1 Pa => ⟨_, rfl, _, rfl, _, _, rfl, ?_⟩⟩
    rw [← esm]
    have fpos : 0 ≤ fi' % 4096 * 2 ^ sm.toNat := Int.mul_nonneg fi0 (Int.le_of_lt (pow_pos2 _))
    refine ⟨_, _, rfl, rfl, cpw fi0 (by omega) sm0 (by omega), _, _, rfl, rfl, sz (by simp), fun q5 hq5 => ?_⟩
    have eand : Builtin.bitAnd (fi' % 4096 * 2 ^ sm.toNat) 4095 = fi' % 4096 * 2 ^ sm.toNat % 4096 := Bits.bitAnd_mask 12 fpos
    have an0 : 0 ≤ Builtin.bitAnd (fi' % 4096 * 2 ^ sm.toNat) 4095 := by rw [eand]; omega
    have an1 : Builtin.bitAnd (fi' % 4096 * 2 ^ sm.toNat) 4095 ≤ 4095 := by rw [eand]; omega
    refine ⟨_, rfl, a, xa, ya, _, rfl, Pa.new hq5, by decide, by decide, fun rb xb yb rb0 rb1 Pb => ?_⟩
    have n5 : q5 ≠ a := (ne_of_none Pa.1 hq5).symm
    obtain ⟨v5, hv5, at', rfl, at0, at1⟩ := pick (xs := [.int ra, .int (Builtin.bitAnd (fi' % 4096 * 2 ^ sm.toNat) 4095), .int 4095]) (fun v => ∃ z, v = .int z ∧ 0 ≤ z ∧ z ≤ 4095) rb0 rb1 (by
      intro v hv
      simp at hv
      rcases hv with h | h | h <;> exact ⟨_, h, by omega, by omega⟩)
    refine ⟨q5, _, _, _, rfl, rfl, .of (by rw [upd_ne n5, upd_same]), hv5, ?_⟩
    have B5 := But.upd (o := .lst [.int xb, .int yb]) (But.new (o := .lst [.int ra, .int (Builtin.bitAnd (fi' % 4096 * 2 ^ sm.toNat) 4095), .int 4095]) (But.upd (o := .lst [.int xa, .int ya]) B4) hq5)
    generalize eH5 : upd (upd (upd H4 a _) q5 _) a _ = H5 at Pb B5 ⊢
    clear eH5 hv5 n5 hq5 P9 Pa B4
    refine ⟨_, rfl, _, rfl, _, rfl, _, rfl, _, rfl, a, xb, yb, rfl, Pb, fun mk xc yc H6 mk0 mk1 B6 P6 => ⟨_, rfl, _, _, _, _, _, _, rfl, ⟨fi0, by omega⟩, ⟨by omega, by omega⟩, ⟨st0, by omega⟩, ⟨mk0, by omega⟩, ⟨kd0, by omega⟩, ?_⟩⟩
    exact q _ xc yc H6 ⟨by omega, by omega⟩ (B5.trans B6) P6

def sp__law_fields (K : PySem.W.Frag) : Sp := fun vs H Q _ => ∃ b : Int, vs = [.int b] ∧ W45 b ∧ (¬ Tells b → ∀ H', Same H H' → Q .non H') ∧ (Tells b → ∀ q H', Same H H' → H q = none → H' q = some (.tup [.int (fFirst b * 2 ^ (fStep b).toNat), .int ((fFirst b + fCnt b) * 2 ^ (fStep b).toNat), .int (fAt b), .str (rtx (bitp (fRts b))), .int (fKind b)]) → Q (.ref q) H')
theorem ok__law_fields {f : Addr} {fd : FuncData} (F : Fun K "_law_fields" "_law_fields" s__law_fields f fd) (T : Txt K w mg) : FnOk P w K mg base CX0 1 f fd ["_law_bits_here"] (sp__law_fields K) := by
  refine F.ok sc__law_fields (fun vs H Q E h => ?_) (fun cdv A outer s H vs Q E hr h => ?_)
  · obtain ⟨b, rfl, hw, q1, q2⟩ := h; rfl
  · obtain ⟨b, rfl, hw, q1, q2⟩ := h
    refine ⟨_, (pss_cons (ps_par (i := 1) (j := 2) rfl sc__law_fields.nd rfl rfl (by decide) rfl rfl (pa_cons (pe_op op_and (pe_op op_shr (pv 0) pe_int) pe_int) (pa_cons (pe_op op_add (pe_op op_and (pe_op op_shr (pv 0) pe_int) pe_int) pe_int) pa_nil)) (by rfl))
      (pss_cons (ps_set (i := 3) sc__law_fields.nd rfl (.inl rfl) (pe_op op_and (pe_op op_shr (pv 0) pe_int) pe_int))
      (pss_cons (ps_if (PW.pt (pw_or (pt_cmpR op_gt (pv 3) pe_int (nomark _)) (pw_or (PW.pt (pw_and (pt_cmpR op_gt (pv 3) pe_int (nomark _)) (pw_and1 (pt_cmpR op_lt (pv 2) pe_int (nomark _))))) (pw_or1 (pt_cmpR op_gt (pe_op op_shl (pe_op op_add (pv 1) (pv 2)) (pv 3)) pe_int (nomark _)))))) (pss_one (ps_ret pe_non)) pss_nil)
      (pss_cons (ps_set (i := 6) sc__law_fields.nd rfl (.inl rfl) (pe_join pe_str (pe_lc (own := [("_law_at", 4), ("_law_sign", 5)]) (g := gTup K 2 (gCons (gName 4) (gCons (gName 5) gNil))) rfl sc__law_fields.nd (pi_enumS (by rfl) T.z_enumerate (pa_cons pe_str pa_nil)) (blkOk_by (own := [("_law_at", 4), ("_law_sign", 5)]) (N := ["_law_bits_here", "_law_first", "_law_count", "_law_step", "_law_at", "_law_sign", "_law_rights"]) (sc := defScope s__law_fields) (by decide +kernel)) (fun _ _ _ _ _ => by exact (pg_tup rfl (pgs_cons (pg_name (i := 4) sc__law_fields.nd rfl (.inl rfl)) (pgs_cons (pg_name (i := 5) sc__law_fields.nd rfl (.inl rfl)) pgs_nil)))) (fun _ _ _ _ _ => (pts_one (pt_cmpR op_eq (pe_op op_and (pe_op op_shr (pv 0) (pe_op op_add pe_int (pv 4))) pe_int) pe_int (nomark _)))) (fun _ _ _ _ _ => (pv 5)))))
      (pss_one (ps_ret (pe_tup (pa_cons (pe_op op_shl (pv 1) (pv 3)) (pa_cons (pe_op op_shl (pe_op op_add (pv 1) (pv 2)) (pv 3)) (pa_cons (pe_op op_and (pv 0) pe_int) (pa_cons (pv 6) (pa_cons (pe_op op_shr (pv 0) pe_int) pa_nil)))))))))))), ?_⟩
    obtain ⟨h0, h45⟩ := hw
    have f := fb b
    have a12 : Builtin.bitAnd (b / 2 ^ 12) 4095 = fFirst b := Bits.bitAnd_mask 12 (by omega)
    have a24 : Builtin.bitAnd (b / 2 ^ 24) 15 + 1 = fCnt b := congrArg (· + 1) (Bits.bitAnd_mask 4 (by omega))
    have a28 : Builtin.bitAnd (b / 2 ^ 28) 15 = fStep b := Bits.bitAnd_mask 4 (by omega)
    have a0 : Builtin.bitAnd b 4095 = fAt b := by
      have := Bits.bitAnd_mask (x := b) 12 h0
      unfold fAt
      rw [show (2 : Int) ^ 0 = 1 by decide, Int.ediv_one]
      exact this
    have a41 : b / 2 ^ 41 = fKind b := by
      unfold fKind
      rw [show (2 : Int) ^ 41 = 2199023255552 by decide, show (2 : Int) ^ 4 = 16 by decide]
      omega
    have cp3 : CPow (Builtin.bitAnd (b / 2 ^ 12) 4095 + (Builtin.bitAnd (b / 2 ^ 24) 15 + 1)) (Builtin.bitAnd (b / 2 ^ 28) 15) := by rw [a12, a24, a28]; exact cpw (by omega) (by omega) (by omega) (by omega)
    have cp1 : CPow (Builtin.bitAnd (b / 2 ^ 12) 4095) (Builtin.bitAnd (b / 2 ^ 28) 15) := by rw [a12, a28]; exact cpw (by omega) (by omega) (by omega) (by omega)
    refine ⟨_, rfl, _, _, rfl, rfl, (by show (0 : Int) ≤ _; decide), _, _, rfl, rfl, _, rfl, _, _, rfl, rfl, (by show (0 : Int) ≤ _; decide), _, _, rfl, rfl, _, _, rfl, rfl, _, _, rfl, ?_⟩
    refine ⟨_, rfl, _, _, rfl, rfl, (by show (0 : Int) ≤ _; decide), _, _, rfl, rfl, ?_⟩
    have no : ¬ Tells b → Q .non H := fun z => q1 z H (Same.refl _)
    have fin : Tells b → tSeq (tAsg (tM1 (fun x xs H Q => ∃ a p, ∃ ys : List Str, x = .str a ∧ xs = [.ref p] ∧ (SqL K H p (ys.map V.str) ∨ SqT K H p (ys.map V.str)) ∧ (ys.map (·.length)).sum + ys.length * a.length ≤ 16777216 ∧ Q (.str (Txt.join a ys)) H) (tC (.str (Str.ofString ""))) (tLc (iEnumS (tCons (tC (.str (Str.ofString "rwlsnfxco"))) tNil)) (gTup K 2 (gCons (gName 4) (gCons (gName 5) gNil))) (tTest (tOp rEq (tOp (rI0 fun i j => .int (Builtin.bitAnd i j)) (tOp (rI (fun _ j => 0 ≤ j) fun i j => .int (i / 2 ^ j.toNat)) (tVar 0) (tOp (rI0 fun i j => .int (i + j)) (tC (.int 32)) (tVar 4))) (tC (.int 1))) (tC (.int 1)))) (tVar 5) [4, 5])) (gName 6)) (tRet (tTup (tCons (tOp (rI CPow fun i j => .int (i * 2 ^ j.toNat)) (tVar 1) (tVar 3)) (tCons (tOp (rI CPow fun i j => .int (i * 2 ^ j.toNat)) (tOp (rI0 fun i j => .int (i + j)) (tVar 1) (tVar 2)) (tVar 3)) (tCons (tOp (rI0 fun i j => .int (Builtin.bitAnd i j)) (tVar 0) (tC (.int 4095))) (tCons (tVar 6) (tCons (tOp (rI (fun _ j => 0 ≤ j) fun i j => .int (i / 2 ^ j.toNat)) (tVar 0) (tC (.int 41))) tNil))))))) { nx := fun _ H' => Q .non H', rt := Q } [some (.int b), some (.int (Builtin.bitAnd (b / 2 ^ 12) 4095)), some (.int (Builtin.bitAnd (b / 2 ^ 24) 15 + 1)), some (.int (Builtin.bitAnd (b / 2 ^ 28) 15)), none, none, none] H := fun tl => by
      have hr0 : 0 ≤ fRts b := Int.emod_nonneg _ (by decide)
      refine ⟨⟨_, rfl⟩, RT, rfl, fun D hD => ?_⟩
      refine lc_it (walk_enumS (z := RT)) (fun i H' => Same H H' ∧ H' D = some (.lst ((rcs (bitp (fRts b)) i).map V.str))) ⟨same_new hD, upd_same⟩ (fun _ _ _ _ => trivial) ?_ ?_
      · rintro i x H1 H2 hi ⟨sm, hl⟩ ⟨Tp, x1, y1, rfl, hn, rfl, hx1, hy1⟩
        rw [RT_size] at hi
        have hy1 : (RT.cps[i]?).map (fun c => V.str ⟨#[c]⟩) = some y1 := hy1
        rw [RT_get i hi] at hy1
        have e1 : x1 = .int (i : Int) := (Option.some.inj hx1).symm
        have e2 : y1 = .str (one (code i)) := (Option.some.inj hy1).symm
        subst e1 e2
        have nD : D ≠ Tp := ne_of_none hl hn
        refine ⟨Tp, _, rfl, .of upd_same, rfl, _, _, rfl, _, _, rfl, rfl, rfl, ?_⟩
        have eb : Builtin.bitAnd (b / 2 ^ (32 + i)) 1 = b / 2 ^ (32 + i) % 2 := Bits.bitAnd_mask 1 (Int.ediv_nonneg h0 (Int.le_of_lt (pow_pos2 _)))
        have el := bit_lift b hi
        refine ⟨_, rfl, _, rfl, _, _, rfl, rfl, _, _, rfl, rfl, by omega, _, _, rfl, rfl, rfl, _, rfl, ifd (fun e => ?_) (fun e => ?_)⟩
        · have e3 : bitp (fRts b) i = true := by
            unfold bitp
            rw [← el, ← eb]
            exact decide_eq_true (V.int.inj e)
          refine ⟨_, rfl, _, (by rw [upd_ne nD]; exact hl), ?_, ?_, ?_⟩
          · rw [List.length_map]
            have := rcs_len (bitp (fRts b)) i
            exact szn (by omega)
          · exact fun b o e => by
              have n : b ≠ D := ne_of_none e hD
              have n2 : b ≠ Tp := ne_of_none (sm b o e) hn
              rw [upd_ne n, upd_ne n2]; exact sm b o e
          · rw [upd_same, rcs_succ, List.map_append, if_pos e3]; rfl
        · refine ⟨sameN sm hn, ?_⟩
          have e3 : ¬ bitp (fRts b) i = true := by
            unfold bitp
            rw [← el, ← eb]
            intro z
            exact e (congrArg V.int (of_decide_eq_true z))
          rw [upd_ne nD, rcs_succ, if_neg e3, List.append_nil]
          exact hl
      · rintro H1 ⟨sm, hl⟩
        rw [RT_size] at hl
        refine ⟨_, D, _, rfl, rfl, .inl (.of hl), rcs_fit _, ?_⟩
        refine ⟨_, rfl, _, rfl, _, _, rfl, rfl, cp1, _, rfl, _, rfl, _, _, rfl, rfl, _, rfl, _, _, rfl, rfl, cp3, _, rfl, _, _, rfl, rfl, _, rfl, _, rfl, _, _, rfl, rfl, (by show (0 : Int) ≤ _; decide), sz (by simp), fun q hq => ?_⟩
        refine q2 tl q _ (sameN sm hq) (Same.free sm hq) ?_
        rw [upd_same]
        show some (HO.tup [.int (Builtin.bitAnd (b / 2 ^ 12) 4095 * 2 ^ (Builtin.bitAnd (b / 2 ^ 28) 15).toNat), .int ((Builtin.bitAnd (b / 2 ^ 12) 4095 + (Builtin.bitAnd (b / 2 ^ 24) 15 + 1)) * 2 ^ (Builtin.bitAnd (b / 2 ^ 28) 15).toNat), .int (Builtin.bitAnd b 4095), .str (rtx (bitp (fRts b))), .int (b / 2 ^ 41)]) = _
        rw [a12, a24, a28, a0, a41]
    refine ⟨_, rfl, _, _, rfl, rfl, _, rfl, ifd (fun c => ?_) (fun c => ?_)⟩
    · have c2 : 8 < fStep b := by rw [← a28]; exact c
      exact no fun z => absurd z.1 (by omega)
    have c2 : ¬ 8 < fStep b := by rw [← a28]; exact c
    have last : (fStep b = 0 ∨ 9 ≤ fCnt b) → ∀ c : Bool, (c = true ↔ ¬ (fFirst b + fCnt b) * 2 ^ (fStep b).toNat ≤ 4096) → (c = true → ¬ Tells b) ∧ (c = false → Tells b) := fun z c hc =>
      ⟨fun e t => hc.mp e t.2.2, fun e => ⟨by omega, z, by
        rcases Decidable.em ((fFirst b + fCnt b) * 2 ^ (fStep b).toNat ≤ 4096) with h | h
        · exact h
        · rw [hc.mpr h] at e; cases e⟩⟩
    have l3 : decide (4096 < (Builtin.bitAnd (b / 2 ^ 12) 4095 + (Builtin.bitAnd (b / 2 ^ 24) 15 + 1)) * 2 ^ (Builtin.bitAnd (b / 2 ^ 28) 15).toNat) = true ↔ ¬ (fFirst b + fCnt b) * 2 ^ (fStep b).toNat ≤ 4096 := by
      rw [a12, a24, a28, decide_eq_true_iff]; omega
    refine ⟨_, rfl, _, _, rfl, rfl, _, rfl, ifd (fun c3 => ?_) (fun c3 => ?_)⟩
    · have c4 : 0 < fStep b := by rw [← a28]; exact c3
      refine ⟨_, rfl, _, _, rfl, rfl, _, rfl, ifd (fun c5 => ?_) (fun c5 => ?_)⟩
      · have c6 : fCnt b < 9 := by rw [← a24]; exact c5
        exact no fun z => by have := z.2.1; omega
      · have c6 : ¬ fCnt b < 9 := by rw [← a24]; exact c5
        refine ⟨_, rfl, _, rfl, _, _, rfl, rfl, _, rfl, _, _, rfl, rfl, cp3, _, _, rfl, rfl, _, rfl, ifb (fun e => ?_) (fun e => ?_)⟩
        · exact no ((last (.inr (by omega)) _ l3).1 e)
        · exact fin ((last (.inr (by omega)) _ l3).2 e)
    · have c4 : ¬ 0 < fStep b := by rw [← a28]; exact c3
      refine ⟨_, rfl, _, rfl, _, _, rfl, rfl, _, rfl, _, _, rfl, rfl, cp3, _, _, rfl, rfl, _, rfl, ifb (fun e => ?_) (fun e => ?_)⟩
      · exact no ((last (.inl (by omega)) _ l3).1 e)
      · exact fin ((last (.inl (by omega)) _ l3).2 e)
abbrev scope_good : Scope := { kind := ScopeKind.function, names := [(Str.ofString ".0", NameKind.local), (Str.ofString "_law_some", NameKind.cell), (Str.ofString "_law_rights", NameKind.cell)], isGenerator := false, isCoroutine := false }
def sp__law_good (K : PySem.W.Frag) : Sp := fun vs H Q _ => ∃ p, vs = [.str (rtx p)] ∧ ∀ b H', Same H H' → (b = true ↔ OneW (rtx p)) → Q (.bl b) H'
theorem ok__law_good {f : Addr} {fd : FuncData} (F : Fun K "_law_good" "_law_good" s__law_good f fd) (T : Txt K w mg) : FnOk P w K mg base CX0 1 f fd ["_law_rights"] (sp__law_good K) := by
  refine F.ok sc__law_good (fun vs H Q E h => ?_) (fun cdv A outer s H vs Q E hr h => ?_)
  · obtain ⟨p, rfl, q⟩ := h; rfl
  · obtain ⟨p, rfl, q⟩ := h
    refine ⟨_, (pss_cons (ps_setLc (i := 3) (own := [("_law_some", 2)]) rfl sc__law_good.nd rfl rfl (sw_true rfl rfl rfl (by decide +kernel)) (pi_list (pe_lst (pa_cons pe_str (pa_cons pe_str (pa_cons pe_str pa_nil))))) (blkOk_by (own := [("_law_some", 2)]) (N := ["_law_rights", "_law_sign", "_law_some", "_law_groups"]) (sc := defScope s__law_good) (by decide +kernel)) (fun _ _ _ _ _ => (pg_name (i := 2) sc__law_good.nd rfl (.inr rfl))) (fun _ _ _ _ _ => pts_nil) (fun _ _ _ _ _ => (pe_cmpR (r := rNeD K) (op_neD hr.units) (pe_lc (own := [("_law_sign", 1)]) rfl sc__law_good.nd (pi_str (pv 0)) (blkOk_by (own := [("_law_sign", 1)]) (N := ["_law_rights", "_law_sign", "_law_some", "_law_groups"]) (sc := scope_good) (by decide +kernel)) (fun _ _ _ _ _ => (pg_name (i := 1) sc__law_good.nd rfl (.inl rfl))) (fun _ _ _ _ _ => by exact (pts_one (pt_cmpR op_in_sign (pv 1) (pv 2) (by rfl)))) (fun _ _ _ _ _ => by exact (pv 1))) (pe_lst pa_nil) (nomark _))))
      (pss_one (ps_ret (pe_cmpR op_lt (pe_bm PySem.F.plainAttrs_list PySem.F.slot_list_count PySem.F.type_list_count mt_lcountB (pv 3) (pa_cons pe_bl pa_nil)) pe_int (nomark _))))), ?_⟩
    refine ⟨sz (by simp), fun L hL => ?_⟩
    refine ⟨L, rfl, ⟨_, .of upd_same⟩, fun D hD => ?_⟩
    have nLD : L ≠ D := ne_of_none upd_same hD
    refine lc_it (walk_list (xs := [.str G0, .str G1, .str G2])) (fun i H' => Same _ H' ∧ H' D = some (.lst ((([G0, G1, G2].take i).map (hasG (rtx p))).map V.bl))) ⟨same_new hD, upd_same⟩ (fun i H' _ h => .of (h.1 _ _ upd_same)) ?_ ?_
    · rintro i x H1 H2 hi ⟨sm, hl⟩ ⟨rfl, hx⟩
      obtain ⟨g, hg, rfl⟩ : ∃ g, [G0, G1, G2][i]? = some g ∧ x = V.str g := by
        have : i = 0 ∨ i = 1 ∨ i = 2 := by simp at hi; omega
        rcases this with e | e | e <;> subst e <;> exact ⟨_, rfl, (Option.some.inj hx).symm⟩
      have tk : [G0, G1, G2].take (i + 1) = [G0, G1, G2].take i ++ [g] := by rw [List.take_add_one, hg]; rfl
      refine ⟨rfl, ?_⟩
      refine ⟨_, rfl, _, rfl, fun D2 hD2 => ?_⟩
      have nD2 : D ≠ D2 := ne_of_none hl hD2
      refine lc_it (walk_str (z := rtx p)) (fun j H' => Same H2 H' ∧ H' D2 = some (.lst ((((rtx p).cps.toList.take j).filter fun c => decide (c ∈ g.cps.toList)).map fun c => V.str (one c)))) ⟨same_new hD2, upd_same⟩ (fun _ _ _ _ => trivial) ?_ ?_
      · rintro j x H3 H4 hj ⟨sm3, hl3⟩ ⟨rfl, c, hc, rfl⟩
        refine ⟨rfl, ?_⟩
        have ec : (rtx p).cps.toList[j]? = some c := by rw [Array.getElem?_toList]; exact hc
        have tk2 : (rtx p).cps.toList.take (j + 1) = (rtx p).cps.toList.take j ++ [c] := by rw [List.take_add_one, ec]; rfl
        refine ⟨_, rfl, _, rfl, c, g, rfl, rfl, _, rfl, ifb (fun e => ?_) (fun e => ?_)⟩
        · refine ⟨_, rfl, _, hl3, ?_, ?_, ?_⟩
          · rw [List.length_map]
            have h1 := List.length_filter_le (fun c => decide (c ∈ g.cps.toList)) ((rtx p).cps.toList.take j)
            have h2 : ((rtx p).cps.toList.take j).length ≤ j := by rw [List.length_take]; exact Nat.min_le_left _ _
            have h3 := rtx_len p
            exact szn (by omega)
          · exact fun b o e => by
              have n : b ≠ D2 := ne_of_none e hD2
              rw [upd_ne n]; exact sm3 b o e
          · rw [upd_same, tk2, List.filter_append, List.map_append, show List.filter (fun c => decide (c ∈ g.cps.toList)) [c] = [c] by rw [List.filter_cons, if_pos e]; rfl]
            rfl
        · refine ⟨sm3, ?_⟩
          rw [tk2, List.filter_append, show List.filter (fun c => decide (c ∈ g.cps.toList)) [c] = [] by rw [List.filter_cons, if_neg (by rw [e]; exact Bool.false_ne_true)]; rfl, List.append_nil]
          exact hl3
      · rintro H3 ⟨sm3, hl3⟩
        refine ⟨sz (by simp), fun D3 hD3 => ?_⟩
        have n23 : D2 ≠ D3 := ne_of_none hl3 hD3
        have nD3 : D ≠ D3 := ne_of_none (sm3 _ _ hl) hD3
        have efull : (rtx p).cps.toList.take (rtx p).cps.size = (rtx p).cps.toList := by rw [show (rtx p).cps.size = (rtx p).cps.toList.length by simp, List.take_length]
        rw [efull] at hl3
        refine ⟨_, _, .lst (.of (show (upd H3 D3 _) D2 = _ by rw [upd_ne n23]; exact hl3)) (dp_strs _), .lst (.of upd_same) .nil, strs_shape (fun c hc => rtx_ok p (List.mem_filter.mp hc).1), rfl, ?_⟩
        refine ⟨_, (show (upd H3 D3 _) D = _ by rw [upd_ne nD3]; exact sm3 _ _ hl), ?_, ?_, ?_⟩
        · rw [List.length_map, List.length_map, List.length_take]
          exact szn (Nat.lt_of_le_of_lt (Nat.min_le_right _ _) (by decide))
        · exact fun b o e => by
            have n : b ≠ D := ne_of_none e hD
            have n3 : b ≠ D3 := ne_of_none (sm3 _ _ (sm _ _ e)) hD3
            rw [upd_ne n, upd_ne n3]
            exact sm3 _ _ (sm _ _ e)
        · rw [upd_same, tk, List.map_append, List.map_append, strs_eqv, hasG_iff]
          rfl
    · rintro H1 ⟨sm, hl⟩
      refine ⟨_, rfl, .inl ⟨rfl, _, .inl (.inl hl)⟩, D, _, rfl, rfl, .of hl, _, _, rfl, rfl, q _ _ (Same.trans (same_new hL) sm) ?_⟩
      rw [decide_eq_true_iff]
      unfold OneW
      have e : ((([G0, G1, G2].take 3).map (hasG (rtx p))).filter id).length = ([G0, G1, G2].filter (hasG (rtx p))).length := by
        rw [List.filter_map, List.length_map]; rfl
      show ((((([G0, G1, G2].take 3).map (hasG (rtx p))).filter id).length : Nat) : Int) < 2 ↔ _
      rw [e]
      omega

def sp__law_text (K : PySem.W.Frag) : Sp := fun vs H Q _ => ∃ p m b, vs = [.ref p] ∧ H p = some (.tup [.bl m, .int b]) ∧ W45 b ∧ (m = true → Law b) ∧ ∀ z H', Same H H' → WT z m b → Q (.str (SX.S z)) H'
theorem ok__law_text {f : Addr} {fd : FuncData} (F : Fun K "_law_text" "_law_text" s__law_text f fd) (T : Txt K w mg) (C__law_fields : Cal P w K mg base "_law_fields" 1 ["_law_bits_here"] (sp__law_fields K)) : FnOk P w K mg base CX0 2 f fd ["_law_own"] (sp__law_text K) := by
  refine F.ok sc__law_text (fun vs H Q E h => ?_) (fun cdv A outer s H vs Q E hr h => ?_)
  · obtain ⟨p, m, b, rfl, hp, hw, hl, q⟩ := h; rfl
  · obtain ⟨p, m, b, rfl, hp, hw, hl, q⟩ := h
    refine ⟨_, (pss_cons (ps_if (pt_not (pt_val (pe_ix (r := rIxT K) ix_tup (pv 0) pe_int (fun _ _ => rfl)))) (pss_one (ps_ret (pe_callTy call_strIS (by rfl) T.z_str (by decide +kernel) (pa_cons (pe_ix (r := rIxT K) ix_tup (pv 0) pe_int (fun _ _ => rfl)) pa_nil)))) pss_nil)
      (pss_cons (ps_asg (pe_cal C__law_fields (hr.mono (by decide)) (pa_cons (pe_ix (r := rIxT K) ix_tup (pv 0) pe_int (fun _ _ => rfl)) pa_nil)) (pg_tup rfl (pgs_cons (pg_name (i := 1) sc__law_text.nd rfl (.inl rfl)) (pgs_cons (pg_name (i := 2) sc__law_text.nd rfl (.inl rfl)) (pgs_cons (pg_name (i := 3) sc__law_text.nd rfl (.inl rfl)) (pgs_cons (pg_name (i := 4) sc__law_text.nd rfl (.inl rfl)) (pgs_cons (pg_name (i := 5) sc__law_text.nd rfl (.inl rfl)) pgs_nil)))))))
      (pss_one (ps_ret (pe_op op_add_str (pe_op op_add_str (pe_op op_add_str (pe_op op_add_str (pe_op op_add_str (pe_op op_add_str (pe_op op_add_str (pe_op op_add_str (pe_callTy call_strIS (by rfl) T.z_str (by decide +kernel) (pa_cons (pv 1) pa_nil)) pe_str) (pe_callTy call_strIS (by rfl) T.z_str (by decide +kernel) (pa_cons (pv 2) pa_nil))) pe_str) (pe_callTy call_strIS (by rfl) T.z_str (by decide +kernel) (pa_cons (pv 3) pa_nil))) pe_str) (pe_orT (pv 4) (pe_one pe_str))) pe_str) (pe_callTy call_strIS (by rfl) T.z_str (by decide +kernel) (pa_cons (pv 5) pa_nil))))))), ?_⟩
    refine ⟨_, rfl, p, _, 0, _, rfl, rfl, .of hp, atI_nat (j := 0) rfl, m, rfl, ifnb (fun e => ?_) (fun e => ?_)⟩
    · subst e
      refine ⟨_, rfl, p, _, 1, _, rfl, rfl, .of hp, atI_nat (j := 1) rfl, .inl ⟨b, rfl, log_small (by have := hw.1; have := hw.2; omega), ?_⟩⟩
      rw [num_text]
      exact q _ H (Same.refl _) (.inr ⟨rfl, hw, rfl⟩)
    subst e
    have hL := hl rfl
    refine ⟨_, rfl, p, _, 1, _, rfl, rfl, .of hp, atI_nat (j := 1) rfl, b, rfl, hw, fun nt => absurd hL.1 nt, fun _ q2 H2 s2 n2 h2 => ?_⟩
    obtain ⟨lo, hi, at', pr, kd, s, ex, W⟩ := wf_of hw hL
    rw [ex] at h2
    obtain ⟨r1, r2, r3, r4, r5, r6, r7, r8⟩ := W.rng
    refine ⟨q2, _, rfl, .of h2, rfl, _, _, rfl, _, _, rfl, _, _, rfl, _, _, rfl, _, _, rfl, rfl, ?_⟩
    have l1 := numI_len (i := lo) (k := 4) (by decide) (by omega)
    have l2 := numI_len (i := hi) (k := 4) (by decide) (by omega)
    have l3 := numI_len (i := at') (k := 4) (by decide) (by omega)
    have l4 := numI_len (i := kd) (k := 2) (by decide) (by omega)
    have l5 : (rtL pr).length ≤ 9 := by
      unfold rtL
      split
      · decide
      · have := rtx_len pr
        simpa using this
    have fin : ∀ R : VK, (∀ z, WT z true b → R (.str (SX.S z)) H2) → R (.str (SX.S ((((((((numI lo ++ [45]) ++ numI hi) ++ [64]) ++ numI at') ++ [58]) ++ rtL pr) ++ [47]) ++ numI kd))) H2 := fun R h => h _ (.inl ⟨rfl, lo, hi, at', pr, kd, s, W, by unfold wtx; simp only [List.append_assoc, List.nil_append, List.cons_append]⟩)
    refine ⟨_, rfl, .inl ⟨lo, rfl, log_small (by omega), ?_⟩⟩
    refine ⟨_, _, rfl, rfl, fit_S (num_text lo) (sgn_S 45 "-") (by simp only [List.length_append, List.length_cons, List.length_nil]; omega), ?_⟩
    rw [cat_S (num_text lo) (sgn_S 45 "-")]
    refine ⟨_, rfl, .inl ⟨hi, rfl, log_small (by omega), ?_⟩⟩
    refine ⟨_, _, rfl, rfl, fit_S rfl (num_text hi) (by simp only [List.length_append, List.length_cons, List.length_nil]; omega), ?_⟩
    rw [cat_S rfl (num_text hi)]
    refine ⟨_, _, rfl, rfl, fit_S rfl (sgn_S 64 "@") (by simp only [List.length_append, List.length_cons, List.length_nil]; omega), ?_⟩
    rw [cat_S rfl (sgn_S 64 "@")]
    refine ⟨_, rfl, .inl ⟨at', rfl, log_small (by omega), ?_⟩⟩
    refine ⟨_, _, rfl, rfl, fit_S rfl (num_text at') (by simp only [List.length_append, List.length_cons, List.length_nil]; omega), ?_⟩
    rw [cat_S rfl (num_text at')]
    refine ⟨_, _, rfl, rfl, fit_S rfl (sgn_S 58 ":") (by simp only [List.length_append, List.length_cons, List.length_nil]; omega), ?_⟩
    rw [cat_S rfl (sgn_S 58 ":")]
    refine ⟨_, rfl, rt_or ?_⟩
    refine ⟨_, _, rfl, rfl, fit_S (y := rtL pr) rfl rfl (by simp only [List.length_append, List.length_cons, List.length_nil]; omega), ?_⟩
    rw [SX.S_cat]
    refine ⟨_, _, rfl, rfl, fit_S rfl (sgn_S 47 "/") (by simp only [List.length_append, List.length_cons, List.length_nil]; omega), ?_⟩
    rw [cat_S rfl (sgn_S 47 "/")]
    refine ⟨_, rfl, .inl ⟨kd, rfl, log_small (by omega), ?_⟩⟩
    refine ⟨_, _, rfl, rfl, fit_S rfl (num_text kd) (by simp only [List.length_append, List.length_cons, List.length_nil]; omega), ?_⟩
    rw [cat_S rfl (num_text kd)]
    exact fin _ fun z wz => q z H2 s2 wz

def sp__law_figures (K : PySem.W.Frag) : Sp := fun vs H Q _ => ∃ z, vs = [.str (SX.S z)] ∧ z.length ≤ 1000 ∧ (∀ c ∈ z, c < 128) ∧ ∀ H', Same H H' → Q (fV z) H'
theorem ok__law_figures {f : Addr} {fd : FuncData} (F : Fun K "_law_figures" "_law_figures" s__law_figures f fd) (T : Txt K w mg) : FnOk P w K mg base CX0 1 f fd ["_law_here"] (sp__law_figures K) := by
  refine F.ok sc__law_figures (fun vs H Q E h => ?_) (fun cdv A outer s H vs Q E hr h => ?_)
  · obtain ⟨z, rfl, hz, h128, q⟩ := h; rfl
  · obtain ⟨z, rfl, hz, h128, q⟩ := h
    refine ⟨_, (pss_cons (ps_if (PW.pt (pw_or (pt_cmpR op_eq (pv 0) pe_str (nomark _)) (pw_or (pt_cmpR op_gt (pe_callB call_len_str (by rfl) T.z_len (by decide +kernel) (pa_cons (pv 0) pa_nil)) pe_int (nomark _)) (pw_or1 (pt_cmpR (r := rNeD K) (op_neD hr.units) (pe_lc (own := [("_law_sign", 1)]) rfl sc__law_figures.nd (pi_str (pv 0)) (blkOk_by (own := [("_law_sign", 1)]) (N := ["_law_here", "_law_sign"]) (sc := defScope s__law_figures) (by decide +kernel)) (fun _ _ _ _ _ => (pg_name (i := 1) sc__law_figures.nd rfl (.inl rfl))) (fun _ _ _ _ _ => (pts_one (pt_cmpR op_notIn_sign (pv 1) pe_str (by rfl)))) (fun _ _ _ _ _ => (pv 1))) (pe_lst pa_nil) (nomark _)))))) (pss_one (ps_ret pe_non)) pss_nil)
      (pss_one (ps_ret (pe_ifExp (PW.pt (pw_and (pt_val (pe_bm PySem.F.plainAttrs_str PySem.F.slot_str_startswith PySem.F.type_str_startswith mt_startswith (pv 0) (pa_cons pe_str pa_nil))) (pw_and1 (pt_cmpR op_ne (pv 0) pe_str (nomark _))))) pe_non (pe_callTy call_int_str (by rfl) T.z_int (by decide +kernel) (pa_cons (pv 0) pa_nil)))))), ?_⟩
    have lz : (SX.S z).length ≤ sizeLine := by rw [SX.S_len, sizeLine_eq]; omega
    have no : ∀ H', Same H H' → ¬ figOk z = true → Q .non H' := fun H' s' h => by
      have := q H' s'
      rw [show fV z = .non from if_neg h] at this
      exact this
    have go : ∀ H', Same H H' → figOk z = true → Q (.int ((NumText.digitsVal z : Nat) : Int)) H' := fun H' s' h => by
      have := q H' s'
      rw [show fV z = .int ((NumText.digitsVal z : Nat) : Int) from if_pos h] at this
      exact this
    refine ⟨_, rfl, rfl, _, rfl, ifd (fun c => ?_) (fun c => ?_)⟩
    · refine no _ (Same.refl _) fun h => (fig_iff.mp h).1 (SX.S_inj ((V.str.inj c).trans nil_S))
    have ne : z ≠ [] := fun e => c (by rw [e]; exact congrArg V.str nil_S.symm)
    refine ⟨_, rfl, _, rfl, lz, _, _, rfl, rfl, _, rfl, ifd (fun l => ?_) (fun l => ?_)⟩
    · refine no _ (Same.refl _) fun h => ?_
      have := (fig_iff.mp h).2.1
      rw [SX.S_len] at l
      omega
    have l9 : z.length ≤ 20 := by rw [SX.S_len] at l; omega
    refine ⟨_, rfl, _, rfl, fun D hD => ?_⟩
    refine lc_it (walk_str (z := SX.S z)) (fun i H' => Same H H' ∧ H' D = some (.lst ((((z.take i).filter fun c => !isF c).map one).map V.str))) ⟨same_new hD, upd_same⟩ (fun _ _ _ _ => trivial) ?_ ?_
    · rintro i x H2 H3 hi ⟨sm, hl⟩ ⟨rfl, c1, hc, rfl⟩
      have hc' : z[i]? = some c1 := by simpa using hc
      have ft := filter_take z (fun c => !isF c) hc'
      refine ⟨rfl, ?_⟩
      refine ⟨_, rfl, c1, _, rfl, rfl, ?_⟩
      rw [in_digits]
      refine ⟨_, rfl, ifnb (fun e => ?_) (fun e => ?_)⟩
      · refine ⟨_, rfl, _, hl, ?_, ?_, ?_⟩
        · rw [List.length_map, List.length_map]
          have := List.length_filter_le (fun c => !isF c) (z.take i)
          rw [List.length_take] at this
          rw [sizeLine_eq]; omega
        · exact fun b o h => by rw [upd_ne (ne_of_none h hD)]; exact sm b o h
        · rw [upd_same, ft, e, if_pos (show (!false) = true from rfl), List.map_append, List.map_append]; rfl
      · refine ⟨sm, ?_⟩
        rw [ft, e, if_neg (show ¬ (!true) = true by decide), List.append_nil]
        exact hl
    rintro H2 ⟨sm, hl⟩
    have tk : z.take (SX.S z).cps.size = z := List.take_of_length_le (by simp)
    rw [tk] at hl
    have okb : ∀ x ∈ (z.filter fun c => !isF c).map one, PyData.strOk x = true := ok_ones fun c hc => h128 c (List.mem_filter.mp hc).1
    refine ⟨sz (by simp), fun L hL => ?_⟩
    have sL := same_new (o := .lst []) hL
    have hl2 := sL _ _ hl
    have fL : (upd H2 L (.lst [])) L = some (.lst []) := upd_same
    replace sm := sm.trans sL
    generalize upd H2 L (.lst []) = H4 at hl2 fL sm ⊢
    refine ⟨_, .list [], dp_txts hl2, .lst (.of fL) .nil, shaped_strs okb, rfl, _, rfl, ?_⟩
    rw [eqv_none]
    refine ifnb (fun b => ?_) (fun b => ?_)
    · refine no _ sm fun h => ?_
      have := badl_nil.mpr (fig_iff.mp h).2.2.1
      rw [this] at b; cases b
    have all : ∀ c ∈ z, isF c = true := badl_nil.mp (by
      cases e : z.filter fun c => !isF c with
      | nil => rfl
      | cons x r => rw [e] at b; cases b)
    clear hl hl2 fL sL okb hL hD b
    have z0 : ∀ y, V.str (SX.S y) = V.str (Str.ofString "0") ↔ y = [48] := fun y => ⟨fun h => SX.S_inj ((V.str.inj h).trans zero_S), fun h => by rw [h]; exact congrArg V.str zero_S.symm⟩
    have it : intText? (SX.S z) = some ((NumText.digitsVal z : Nat) : Int) := intText_digits (x := SX.S z) (allF (List.all_eq_true.mpr all)) ne (by rw [SX.S_len]; omega)
    refine ⟨_, rfl, rfl, _, _, rfl, rfl, ?_⟩
    rw [show Txt.startswith (SX.S z) (Str.ofString "0") = decide (z.head? = some 48) from by rw [zero_S]; exact starts_S _ 48]
    refine ⟨_, rfl, ifd (fun a1 => ?_) (fun a1 => ?_)⟩
    · refine ⟨_, rfl, rfl, _, rfl, ifnd (fun a2 => ?_) (fun a2 => ?_)⟩
      · exact no _ sm fun h => (fig_iff.mp h).2.2.2.elim (fun h => h a1) (fun h => a2 ((z0 _).mpr h))
      · exact ⟨_, rfl, _, _, rfl, it, by rw [SX.S_len]; omega, go _ sm (fig_iff.mpr ⟨ne, l9, all, .inr ((z0 _).mp a2)⟩)⟩
    · exact ⟨_, rfl, _, _, rfl, it, by rw [SX.S_len]; omega, go _ sm (fig_iff.mpr ⟨ne, l9, all, .inl a1⟩)⟩

def sp__law_exact (K : PySem.W.Frag) : Sp := fun vs H Q _ => ∃ lo hi : Int, vs = [.int lo, .int hi] ∧ Bd lo hi ∧ ∀ b H', Same H H' → (b = true ↔ ∃ s, Ex lo hi s) → Q (.bl b) H'
theorem ok__law_exact {f : Addr} {fd : FuncData} (F : Fun K "_law_exact" "_law_exact" s__law_exact f fd) (T : Txt K w mg) : FnOk P w K mg base CX0 1 f fd ["_law_low", "_law_high"] (sp__law_exact K) := by
  refine F.ok sc__law_exact (fun vs H Q E h => ?_) (fun cdv A outer s H vs Q E hr h => ?_)
  · obtain ⟨lo, hi, rfl, bd, q⟩ := h; rfl
  · obtain ⟨lo, hi, rfl, bd, q⟩ := h
    refine ⟨_, (pss_cons (ps_for PassesOwn.never rfl (pi_range1 (by rfl) T.z_range (pa_cons pe_int pa_nil)) (pg_name (i := 2) sc__law_exact.nd rfl (.inl rfl)) (pss_one (ps_if (PW.pt (pw_and (pt_cmpR op_eq (pe_op op_shl (pe_op op_shr (pv 0) (pv 2)) (pv 2)) (pv 0) (nomark _)) (pw_and1 (pt_cmpR op_eq (pe_op op_shl (pe_op op_shr (pv 1) (pv 2)) (pv 2)) (pv 1) (nomark _))))) (pss_cons (ps_set (i := 3) sc__law_exact.nd rfl (.inl rfl) (pe_op op_shr (pe_op op_sub (pv 1) (pv 0)) (pv 2)))
      (pss_one (ps_if (PW.pt (pw_and (pt_cmpR op_le (pv 3) pe_int (nomark _)) (pw_and1 (PW.pt (pw_or (pt_cmpR op_gt (pv 3) pe_int (nomark _)) (pw_or1 (pt_cmpR op_eq (pv 2) pe_int (nomark _)))))))) (pss_one (ps_ret pe_bl)) pss_nil))) pss_nil)))
      (pss_one (ps_ret pe_bl))), ?_⟩
    refine ⟨9, rfl, by decide, by decide, for_range (n := 9) (fun i σ H' => ∃ v2 v3, σ = [some (.int lo), some (.int hi), v2, v3] ∧ Same H H' ∧ ∀ t, t < i → ¬ Cnd lo hi t) ⟨_, _, rfl, Same.refl _, fun t ht => absurd ht (Nat.not_lt_zero t)⟩ ?_ ?_⟩
    · rintro i σ H1 hi9 ⟨v2, v3, rfl, sm, no⟩
      rw [i0]
      have h8 : i ≤ 8 := by omega
      have nx : ¬ Cnd lo hi i → ∀ t, t < i + 1 → ¬ Cnd lo hi t := fun nc t ht => by
        rcases Nat.lt_or_ge t i with d | d
        · exact no t d
        · have e : t = i := by omega
          rw [e]; exact nc
      obtain ⟨b1, b2, b3⟩ := id bd
      have d1 := div_le' (s := i) (x := lo) b1
      have d2 := div_le' (s := i) (x := hi) (by omega)
      refine ⟨_, rfl, _, rfl, _, _, rfl, rfl, by omega, _, rfl, _, _, rfl, rfl, cpd b1 (by omega) h8, _, rfl, rfl, _, rfl, ifd (fun c1 => ?_) (fun c1 => ⟨_, _, rfl, sm, nx fun c => c1 (congrArg V.int c.1)⟩)⟩
      refine ⟨_, rfl, _, rfl, _, _, rfl, rfl, by omega, _, rfl, _, _, rfl, rfl, cpd (by omega) b3 h8, _, rfl, rfl, _, rfl, ifd (fun c2 => ?_) (fun c2 => ⟨_, _, rfl, sm, nx fun c => c2 (congrArg V.int c.2.1)⟩)⟩
      refine ⟨_, rfl, _, rfl, _, _, rfl, rfl, _, rfl, _, _, rfl, rfl, by omega, ?_⟩
      refine ⟨_, rfl, _, _, rfl, rfl, _, rfl, ifd (fun c3 => ?_) (fun c3 => ⟨_, _, rfl, sm, nx fun c => c3 c.2.2.1⟩)⟩
      have yes : (8 < (hi - lo) / 2 ^ i ∨ i = 0) → Q (.bl true) H1 := fun c4 => q true H1 sm ⟨fun _ => ⟨i, cnd_ex bd h8 ⟨V.int.inj c1, V.int.inj c2, c3, c4⟩⟩, fun _ => rfl⟩
      refine ⟨_, rfl, _, _, rfl, rfl, _, rfl, ifd (fun c4 => yes (.inl c4)) (fun c4 => ?_)⟩
      refine ⟨_, rfl, rfl, _, rfl, ifd (fun c5 => yes (.inr (by have := V.int.inj c5; omega))) (fun c5 => ⟨_, _, rfl, sm, nx fun c => ?_⟩)⟩
      rcases c.2.2.2 with h | h
      · exact c4 h
      · exact c5 (by rw [h]; rfl)
    · rintro σ H1 ⟨v2, v3, rfl, sm, no⟩
      refine q false H1 sm ⟨fun z => Bool.noConfusion z, fun h => ?_⟩
      obtain ⟨s, e⟩ := h
      obtain ⟨h8, c⟩ := ex_cnd bd e
      exact absurd c (no s (by omega))

def sp__law_due (K : PySem.W.Frag) : Sp := fun vs H Q _ => ∃ v d, vs = [v] ∧ Dx H v d ∧ (∀ s, d = .str s → s.cps.toList.length ≤ 1000 ∧ ∀ c ∈ s.cps.toList, c < 128) ∧ (∀ s m b q H', d = .str s → RT2 s.cps.toList m b → Same H H' → H q = none → H' q = some (.tup [.bl m, .int b]) → Q (.ref q) H') ∧ ((∀ s m b, d = .str s → ¬ RT2 s.cps.toList m b) → ∀ H', Same H H' → Q .non H')
theorem ok__law_due {f : Addr} {fd : FuncData} (F : Fun K "_law_due" "_law_due" s__law_due f fd) (T : Txt K w mg) (C_word_of : CalXD P w K mg base "word_of" 8 ["fields", "marked"] [.bl true] (sp_word_of K)) (C__law_good : Cal P w K mg base "_law_good" 1 ["_law_rights"] (sp__law_good K)) (C__law_figures : Cal P w K mg base "_law_figures" 1 ["_law_here"] (sp__law_figures K)) (C__law_exact : Cal P w K mg base "_law_exact" 1 ["_law_low", "_law_high"] (sp__law_exact K)) : FnOk P w K mg base CX0 9 f fd ["_law_here"] (sp__law_due K) := by
  refine F.ok sc__law_due (fun vs H Q E h => ?_) (fun cdv A outer s H vs Q E hr h => ?_)
  · obtain ⟨v, d, rfl, hd, hs, q, q2⟩ := h; rfl
  · obtain ⟨v, d, rfl, hd, hs, q, q2⟩ := h
    refine ⟨_, (pss_cons (ps_if (pt_not (pt_val (pe_callB call_isi (by rfl) T.z_isinstance (by decide +kernel) (pa_cons (pv 0) (pa_cons (pe_bltn (v := .ty "str") (by rfl) T.z_str (by decide +kernel) rfl) pa_nil))))) (pss_one (ps_ret pe_non)) pss_nil)
      (pss_cons (ps_if (pt_cmpR op_notN (pe_cal C__law_figures (hr.mono (by decide)) (pa_cons (pv 0) pa_nil)) pe_non (nomark _)) (pss_one (ps_ret (pe_ifExp (pt_cmpR op_lt (pe_cal C__law_figures (hr.mono (by decide)) (pa_cons (pv 0) pa_nil)) (pe_op op_shl pe_int pe_int) (nomark _)) (pe_tup (pa_cons pe_bl (pa_cons (pe_cal C__law_figures (hr.mono (by decide)) (pa_cons (pv 0) pa_nil)) pa_nil))) pe_non))) pss_nil)
      (pss_cons (ps_set (i := 1) sc__law_due.nd rfl (.inl rfl) (pe_lst pa_nil))
      (pss_cons (ps_for PassesOwn.never rfl (pi_str pe_str) (pg_name (i := 2) sc__law_due.nd rfl (.inl rfl)) (pss_cons (ps_if (pt_cmpR op_notIn_sign (pv 2) (pv 0) (by rfl)) (pss_one (ps_ret pe_non)) pss_nil)
      (pss_cons (ps_asg (pe_bm PySem.F.plainAttrs_str PySem.F.slot_str_split PySem.F.type_str_split mt_splitMax (pv 0) (pa_cons (pv 2) (pa_cons pe_int pa_nil))) (pg_lst rfl (pgs_cons (pg_name (i := 3) sc__law_due.nd rfl (.inl rfl)) (pgs_cons (pg_name (i := 0) sc__law_due.nd rfl (.inl rfl)) pgs_nil))))
      (pss_one (ps_expr (pe_bm PySem.F.plainAttrs_list PySem.F.slot_list_append PySem.F.type_list_append mt_append (pv 1) (pa_cons (pv 3) pa_nil)))))))
      (pss_cons (ps_asg (pe_lc (own := [("_law_one", 4)]) rfl sc__law_due.nd (pi_list (pe_lst (pa_cons (pe_ix (r := rIxL K) ix_list (pv 1) pe_int (fun _ _ => rfl)) (pa_cons (pe_ix (r := rIxL K) ix_list (pv 1) pe_int (fun _ _ => rfl)) (pa_cons (pe_ix (r := rIxL K) ix_list (pv 1) pe_int (fun _ _ => rfl)) (pa_cons (pv 0) pa_nil)))))) (blkOk_by (own := [("_law_one", 4)]) (N := ["_law_here", "_law_parts", "_law_sign", "_law_ahead", "_law_one", "_law_low", "_law_high", "_law_at", "_law_kind", "_law_rights"]) (sc := defScope s__law_due) (by decide +kernel)) (fun _ _ _ _ _ => (pg_name (i := 4) sc__law_due.nd rfl (.inl rfl))) (fun _ _ _ _ _ => pts_nil) (fun _ _ _ _ _ => (pe_cal C__law_figures (hr.mono (by decide)) (pa_cons (pv 4) pa_nil)))) (pg_lst rfl (pgs_cons (pg_name (i := 5) sc__law_due.nd rfl (.inl rfl)) (pgs_cons (pg_name (i := 6) sc__law_due.nd rfl (.inl rfl)) (pgs_cons (pg_name (i := 7) sc__law_due.nd rfl (.inl rfl)) (pgs_cons (pg_name (i := 8) sc__law_due.nd rfl (.inl rfl)) pgs_nil))))))
      (C8.pss_cut (ps_set (i := 9) sc__law_due.nd rfl (.inr rfl) (pe_ifExp (pt_cmpR op_eq (pe_ix (r := rIxL K) ix_list (pv 1) pe_int (fun _ _ => rfl)) pe_str (nomark _)) pe_str (pe_orT (pe_ix (r := rIxL K) ix_list (pv 1) pe_int (fun _ _ => rfl)) (pe_one pe_str))))
      (pss_cons (ps_if (PW.pt (pw_or (pt_cmpR (r := rInD K) (op_inD (hu65 hr)) pe_non (pe_lst (pa_cons (pv 5) (pa_cons (pv 6) (pa_cons (pv 7) (pa_cons (pv 8) pa_nil))))) (by rfl)) (pw_or1 (pt_cmpR (r := rNeD K) (op_neD hr.units) (pe_lc (own := [("_law_sign", 2)]) rfl sc__law_due.nd (pi_str pe_str) (blkOk_by (own := [("_law_sign", 2)]) (N := ["_law_here", "_law_parts", "_law_sign", "_law_ahead", "_law_one", "_law_low", "_law_high", "_law_at", "_law_kind", "_law_rights"]) (sc := defScope s__law_due) (by decide +kernel)) (fun _ _ _ _ _ => (pg_name (i := 2) sc__law_due.nd rfl (.inl rfl))) (fun _ _ _ _ _ => (pts_one (pt_cmpR op_in_sign (pv 2) (pv 9) (by rfl)))) (fun _ _ _ _ _ => (pv 2))) (pe_callTy (call_listStr rfl) (by rfl) T.z_list (by decide +kernel) (pa_cons (pv 9) pa_nil)) (nomark _))))) (pss_one (ps_ret pe_non)) pss_nil)
      (pss_cons (ps_if (PW.pt (pw_or (pt_not (pt_chain op_lt op_le (pv 5) (pv 6) pe_int)) (pw_or (pt_cmpR op_gt (pv 7) pe_int (nomark _)) (pw_or (pt_cmpR op_gt (pv 8) pe_int (nomark _)) (pw_or (pt_not (pt_val (pe_cal C__law_good (hr.mono (by decide)) (pa_cons (pv 9) pa_nil)))) (pw_or1 (pt_not (pt_val (pe_cal C__law_exact (hr.mono (by decide)) (pa_cons (pv 5) (pa_cons (pv 6) pa_nil))))))))))) (pss_one (ps_ret pe_non)) pss_nil)
      (pss_one (ps_ret (pe_calXD0 C_word_of (hr.mono (by decide)) (pa_cons (pe_tup (pa_cons (pv 5) (pa_cons (pv 6) (pa_cons (pv 7) (pa_cons (pv 9) (pa_cons (pv 8) pa_nil)))))) pa_nil)))))))))))), ?_⟩
    obtain ⟨t, ty, kt⟩ := hd.str? (K := K)
    refine ⟨_, rfl, _, _, t, _, dStr d, rfl, .ty "str", ty, kt, dStr d, rfl, ifnb (fun c => ?_) (fun c => ?_)⟩
    · exact q2 (fun s m b e => by subst e; cases c) H (Same.refl _)
    obtain ⟨s0, rfl⟩ : ∃ s, d = .str s := by cases d <;> first | exact ⟨_, rfl⟩ | cases c
    cases hd.str_of
    obtain ⟨z, rfl⟩ : ∃ z, s0 = SX.S z := ⟨s0.cps.toList, (S_back s0).symm⟩
    obtain ⟨hz, h128⟩ := hs _ rfl
    replace hz : z.length ≤ 1000 := hz
    replace h128 : ∀ c ∈ z, c < 128 := h128
    replace q : ∀ m b q H', RT2 z m b → Same H H' → H q = none → H' q = some (.tup [.bl m, .int b]) → Q (.ref q) H' := fun m b q' H' h => q (SX.S z) m b q' H' rfl h
    replace q2 : (∀ m b, ¬ RT2 z m b) → ∀ H', Same H H' → Q .non H' := fun h => q2 fun s m b e => by cases e; exact h m b
    have none1 : figOk z = false → 64 ∉ z → ∀ m b, ¬ RT2 z m b := fun f n m b h => by
      have := (h.fig (.inl n)).2.2.2
      rw [fV_no f] at this
      cases this
    have noP : figOk z = false → (∀ b, ¬ MT z b) → ∀ m b, ¬ RT2 z m b := fun f n m b h => by
      rcases h with ⟨_, _, h⟩ | ⟨h, e, w, k⟩
      · exact n b h
      · exact none1 f h m b (.inr ⟨h, e, w, k⟩)
    refine ⟨_, rfl, z, rfl, hz, h128, fun H1 s1 => ?_⟩
    cases ok : figOk z with
    | true =>
      rw [fV_ok ok]
      refine ⟨rfl, _, rfl, ifnd (fun _ => ?_) (fun c => nomatch c)⟩
      obtain ⟨v, ev⟩ : ∃ v : Int, v = ((NumText.digitsVal z : Nat) : Int) := ⟨_, rfl⟩
      have v0 : 0 ≤ v := by omega
      have ez : z = numI v := by rw [ev]; exact fig_num ok
      have n64 : 64 ∉ z := fun m => by have := (fig_iff.mp ok).2.2.1 64 m; exact absurd this (by decide)
      refine ⟨_, rfl, z, rfl, hz, h128, fun H2 s2 => ?_⟩
      rw [fV_ok ok, ← ev]
      refine ⟨_, _, rfl, rfl, cpw (by decide) (by decide) (by decide) (by decide), _, _, rfl, rfl, _, rfl, ifd (fun l => ?_) (fun l => ?_)⟩
      · replace l : v < 35184372088832 := l
        refine ⟨_, rfl, z, rfl, hz, h128, fun H3 s3 => ?_⟩
        rw [fV_ok ok, ← ev]
        have s123 := s1.trans (s2.trans s3)
        exact ⟨sz (by simp), fun p hp => q false v p _ (.inr ⟨n64, rfl, ⟨v0, l⟩, by rw [ez]; exact whole_num (n29 v0 (by omega))⟩) (s123.trans (same_new hp)) (none_back s123 hp) upd_same⟩
      · refine q2 (fun m b h => l ?_) H2 (s1.trans s2)
        obtain ⟨_, w, _, k⟩ := h.fig (.inr ok)
        rw [fV_ok ok, ← ev] at k
        have k2 : v = b := V.int.inj k
        show v < 35184372088832
        rw [k2]; exact w.2
    | false =>
      rw [fV_no ok]
      refine ⟨rfl, _, rfl, ifnd (fun c => absurd rfl c) (fun _ => ?_)⟩
      replace q2 : (∀ b, ¬ MT z b) → ∀ H', Same H H' → Q .non H' := fun h => q2 (noP ok h)
      clear none1 noP
      have hP : ∀ j, j < 4 → (∀ c ∈ Pz z j, c < 128) ∧ (Pz z j).length ≤ 1000 := fun j _ => ⟨fun c h => h128 c (Pz_mem h), by have := Pz_len z j; omega⟩
      refine ⟨sz (by simp), fun Pl hPl => ?_⟩
      have hP0 : H Pl = none := none_back s1 hPl
      have S1 := s1.trans (same_new (o := .lst []) hPl)
      have e1 : (upd H1 Pl (.lst [])) Pl = some (.lst []) := upd_same
      generalize upd H1 Pl (.lst []) = H2 at S1 e1 ⊢
      clear hPl s1
      refine ⟨SGS, rfl, for_it (walk_str (z := SGS)) (fun i σ H' => ∃ v2 v3, σ = [some (.str (SX.S (Rz z i))), some (.ref Pl), v2, v3, none, none, none, none, none, none] ∧ Same H H' ∧ H' Pl = some (.lst ((List.range i).map fun j => V.str (SX.S (Pz z j)))) ∧ ∀ j, j < i → sg j ∈ Rz z j) ⟨_, _, rfl, S1, e1, fun j hj => absurd hj (Nat.not_lt_zero j)⟩ (fun _ _ _ _ _ => trivial) ?_ ?_⟩
      · rintro i x σ H3 H4 hi ⟨v2, v3, rfl, sm, hl, hj⟩ ⟨rfl, c, hc, rfl⟩
        rw [SGS_size] at hi
        rw [SGS_get i hi] at hc
        have ec : c = sg i := (Option.some.inj hc).symm
        subst ec
        have rl := Rz_len z i
        refine ⟨_, rfl, _, rfl, sg i, SX.S (Rz z i), rfl, rfl, _, rfl, ifnd (fun c => ?_) (fun c => ?_)⟩
        · exact q2 (fun b h => c (h.cuts.1 i hi)) _ sm
        replace c : sg i ∈ Rz z i := c
        refine ⟨_, rfl, rfl, _, rfl, _, _, 1, rfl, rfl, rfl, by decide, by decide, by rw [SX.S_len, sizeLine_eq]; omega, fun p6 n6 => ?_⟩
        rw [show Txt.splitMax (SX.S (Rz z i)) (⟨#[sg i]⟩ : Str) 1 = [SX.S (Pz z i), SX.S (Rz z (i + 1))] from splitMax1 (sg_small hi) c]
        have S6 := same_new (o := .lst ([SX.S (Pz z i), SX.S (Rz z (i + 1))].map V.str)) n6
        refine ⟨p6, _, rfl, .of upd_same, rfl, _, _, rfl, _, _, rfl, rfl, ?_⟩
        replace hl := S6 _ _ hl
        replace sm := sm.trans S6
        generalize upd H4 p6 _ = H5 at hl sm ⊢
        refine ⟨_, rfl, .inl ⟨rfl, _, .of hl⟩, _, rfl, Pl, _, _, rfl, rfl, hl, ?_, ?_⟩
        · rw [List.length_map, List.length_range, sizeLine_eq]; omega
        refine ⟨_, _, rfl, fun b o e => by rw [upd_ne (ne_of_none e hP0)]; exact sm b o e, ?_, fun j hji => ?_⟩
        · rw [upd_same, List.range_succ, List.map_append]; rfl
        · rcases Nat.lt_or_ge j i with d | d
          · exact hj j d
          · have : j = i := by omega
            rw [this]; exact c
      rw [SGS_size]
      rintro σ H3 ⟨v2, v3, rfl, sm, hl, hj⟩
      replace hl : H3 Pl = some (.lst [.str (SX.S (Pz z 0)), .str (SX.S (Pz z 1)), .str (SX.S (Pz z 2)), .str (SX.S (Pz z 3))]) := hl
      clear e1 S1
      clear H2 H1
      refine ⟨_, rfl, Pl, _, 0, _, rfl, rfl, .of hl, atI_nat (j := 0) rfl, ?_⟩
      refine ⟨_, rfl, Pl, _, 1, _, rfl, rfl, .of hl, atI_nat (j := 1) rfl, ?_⟩
      refine ⟨_, rfl, Pl, _, 2, _, rfl, rfl, .of hl, atI_nat (j := 2) rfl, ?_⟩
      refine ⟨_, rfl, sz (by simp), fun L hL => ⟨L, rfl, ⟨_, .of upd_same⟩, fun D hD => ?_⟩⟩
      have SL := same_new (o := .lst [.str (SX.S (Pz z 0)), .str (SX.S (Pz z 1)), .str (SX.S (Pz z 2)), .str (SX.S (Rz z 4))]) hL
      have eL : (upd H3 L (.lst [.str (SX.S (Pz z 0)), .str (SX.S (Pz z 1)), .str (SX.S (Pz z 2)), .str (SX.S (Rz z 4))])) L = some (.lst [.str (SX.S (Pz z 0)), .str (SX.S (Pz z 1)), .str (SX.S (Pz z 2)), .str (SX.S (Rz z 4))]) := upd_same
      generalize upd H3 L _ = H4 at SL eL hD ⊢
      have SM := sm.trans SL
      have hl4 := SL _ _ hl
      clear hL SL sm hl
      clear H3
      refine lc_list (K := K) (a := L) (xs := [.str (SX.S (Pz z 0)), .str (SX.S (Pz z 1)), .str (SX.S (Pz z 2)), .str (SX.S (Rz z 4))]) (fun i H' => Same H4 H' ∧ H' D = some (.lst ([fV (Pz z 0), fV (Pz z 1), fV (Pz z 2), fV (Rz z 4)].take i))) ⟨same_new hD, upd_same⟩ (fun i H' _ h => .of (h.1 _ _ eL)) ?_ ?_
      · rintro i x H5 hi ⟨sm2, hl2⟩
        obtain ⟨y, ex, hy, hy2, ey⟩ : ∃ y, x = V.str (SX.S y) ∧ y.length ≤ 1000 ∧ (∀ c ∈ y, c < 128) ∧ [fV (Pz z 0), fV (Pz z 1), fV (Pz z 2), fV (Rz z 4)].take (i + 1) = [fV (Pz z 0), fV (Pz z 1), fV (Pz z 2), fV (Rz z 4)].take i ++ [fV y] := by
          have hi4 : i < 4 := by
            have := (List.getElem?_eq_some_iff.mp hi).1
            simpa using this
          have : i = 0 ∨ i = 1 ∨ i = 2 ∨ i = 3 := by omega
          rcases this with e | e | e | e <;> subst e
          · exact ⟨Pz z 0, (Option.some.inj hi).symm, (hP 0 (by decide)).2, (hP 0 (by decide)).1, rfl⟩
          · exact ⟨Pz z 1, (Option.some.inj hi).symm, (hP 1 (by decide)).2, (hP 1 (by decide)).1, rfl⟩
          · exact ⟨Pz z 2, (Option.some.inj hi).symm, (hP 2 (by decide)).2, (hP 2 (by decide)).1, rfl⟩
          · exact ⟨Rz z 4, (Option.some.inj hi).symm, by have := Rz_len z 4; omega, fun c h => h128 c (Rz_mem 4 h), rfl⟩
        subst ex
        refine ⟨rfl, ?_⟩
        refine ⟨_, rfl, y, rfl, hy, hy2, fun H6 s6 => ?_⟩
        refine ⟨_, s6 _ _ hl2, ?_, ?_, ?_⟩
        · have := List.length_take_le i [fV (Pz z 0), fV (Pz z 1), fV (Pz z 2), fV (Rz z 4)]
          simp at this ⊢
          rw [sizeLine_eq]; omega
        · exact fun b o e => by rw [upd_ne (ne_of_none e hD)]; exact s6 _ _ (sm2 b o e)
        · rw [upd_same, ey]
      rintro H5 ⟨sm2, hl2⟩
      replace hl2 : H5 D = some (.lst [fV (Pz z 0), fV (Pz z 1), fV (Pz z 2), fV (Rz z 4)]) := hl2
      have hl5 := sm2 _ _ hl4
      have SM5 := SM.trans sm2
      refine ⟨D, _, rfl, .of hl2, rfl, _, _, rfl, _, _, rfl, _, _, rfl, _, _, rfl, rfl, ?_⟩
      clear sm2 hl2 hl4 SM eL hD
      clear H4
      refine ⟨fun σ G => ∃ v1 v2 v3 v4, σ = [v1, v2, v3, v4, none, some (fV (Pz z 0)), some (fV (Pz z 1)), some (fV (Pz z 2)), some (fV (Rz z 4)), some (.str (SX.S (rrL (Pz z 3))))] ∧ Same H G, ?_, ?_⟩
      · have mid : ∀ w : Str, w = SX.S (rrL (Pz z 3)) → ∃ v1' v2' v3' v4', [some (.str (SX.S (Rz z 4))), some (.ref Pl), v2, v3, none, some (fV (Pz z 0)), some (fV (Pz z 1)), some (fV (Pz z 2)), some (fV (Rz z 4)), some (V.str w)] = [v1', v2', v3', v4', none, some (fV (Pz z 0)), some (fV (Pz z 1)), some (fV (Pz z 2)), some (fV (Rz z 4)), some (.str (SX.S (rrL (Pz z 3))))] ∧ Same H H5 := fun w e => by subst e; exact ⟨_, _, _, _, rfl, SM5⟩
        refine ⟨_, rfl, Pl, _, 3, _, rfl, rfl, .of hl5, atI_nat (j := 3) rfl, rfl, _, rfl, ifd (fun c => ?_) (fun c => ?_)⟩
        · have c3 : Pz z 3 = [45] := SX.S_inj ((V.str.inj c).trans minus_S)
          exact mid _ (by rw [c3]; exact nil_S)
        · have c3 : ¬ Pz z 3 = [45] := fun e => c (by rw [e]; exact congrArg V.str minus_S.symm)
          have lp := (hP 3 (by decide)).2
          refine ⟨_, rfl, Pl, _, 3, _, rfl, rfl, .of hl5, atI_nat (j := 3) rfl, _, ⟨by rw [SX.S_len, sizeLine_eq]; omega, rfl⟩, ?_⟩
          by_cases c4 : Pz z 3 = []
          · refine ifbF (by rw [c4]; rfl) ?_
            exact mid _ (by unfold rrL; rw [if_neg c3, if_pos c4]; decide +kernel)
          · refine ifbT ?_ ?_
            · rw [SX.S_len]
              cases h : Pz z 3 with
              | nil => exact absurd h c4
              | cons a r => simp; omega
            · exact mid _ (by unfold rrL; rw [if_neg c3, if_neg c4])
      · clear hl5 SM5
        clear H5
        rintro σ G ⟨v1, v2, v3, v4, rfl, SG⟩
        refine ⟨_, rfl, _, rfl, _, rfl, _, rfl, sz (by simp), fun L hL => ?_⟩
        refine ⟨.none, [dF (Pz z 0), dF (Pz z 1), dF (Pz z 2), dF (Rz z 4)], .non, .lst (.of upd_same) (.cons (dF_dp _) (.cons (dF_dp _) (.cons (dF_dp _) (.cons (dF_dp _) .nil)))), by decide +kernel, dF4_sh .., _, rfl, ?_⟩
        rw [nin4]
        replace SG := SG.trans (same_new (o := .lst [fV (Pz z 0), fV (Pz z 1), fV (Pz z 2), fV (Rz z 4)]) hL)
        generalize upd G L _ = G1 at SG ⊢
        clear hL
        clear G
        refine ifnb (fun nb => ?_) (fun ok4 => ?_)
        · refine q2 (fun b h => ?_) _ SG
          obtain ⟨o0, o1, o2, o4⟩ := h.figs
          rw [o0, o1, o2, o4] at nb
          cases nb
        obtain ⟨o0, o1, o2, o4⟩ : figOk (Pz z 0) = true ∧ figOk (Pz z 1) = true ∧ figOk (Pz z 2) = true ∧ figOk (Rz z 4) = true := by
          simp only [Bool.and_eq_true] at ok4
          exact ⟨ok4.1.1.1, ok4.1.1.2, ok4.1.2, ok4.2⟩
        obtain ⟨a0, f0⟩ : ∃ i, fV (Pz z 0) = .int i := ⟨_, fV_ok o0⟩
        obtain ⟨a1, f1⟩ : ∃ i, fV (Pz z 1) = .int i := ⟨_, fV_ok o1⟩
        obtain ⟨a2, f2⟩ : ∃ i, fV (Pz z 2) = .int i := ⟨_, fV_ok o2⟩
        obtain ⟨a4, f4⟩ : ∃ i, fV (Rz z 4) = .int i := ⟨_, fV_ok o4⟩
        clear ok4 o0 o1 o2 o4
        rw [f0, f1, f2, f4]
        have TT : ∀ b, MT z b → Bd a0 a1 ∧ (∃ s, Ex a0 a1 s) ∧ a2 ≤ 4095 ∧ a4 ≤ 15 ∧ SX.S (rrL (Pz z 3)) = rtx (hasR (SX.S (rrL (Pz z 3)))) ∧ OneW (SX.S (rrL (Pz z 3))) := fun b h => h.tests f0 f1 f2 f4
        have DM := fun s => due_mt (s := s) hj f0 f1 f2 f4
        have p0 := (fV_int f0).1
        have p1 := (fV_int f1).1
        have p2 := (fV_int f2).1
        have p4 := (fV_int f4).1
        have rl : (rrL (Pz z 3)).length ≤ 1004 := by have := rrL_len (z := Pz z 3); have := (hP 3 (by decide)).2; omega
        have rm : PyData.strOk (SX.S (rrL (Pz z 3))) = true := ok_S (rrL_mem (hP 3 (by decide)).1)
        have rz : (SX.S (rrL (Pz z 3))).cps.size ≤ sizeLine := by
          show (SX.S (rrL (Pz z 3))).length ≤ _
          rw [SX.S_len, sizeLine_eq]; omega
        have n64 : 64 ∈ z := Rz_mem 1 (hj 1 (by decide))
        clear f0 f1 f2 f4 hj hP
        generalize SX.S (rrL (Pz z 3)) = r at TT DM rm rz ⊢
        refine ⟨RT, rfl, fun D hD => ?_⟩
        refine lc_it (walk_str (z := RT)) (fun i H' => Same G1 H' ∧ H' D = some (.lst ((rcs (hasR r) i).map V.str))) ⟨same_new hD, upd_same⟩ (fun _ _ _ _ => trivial) ?_ ?_
        · rintro i x H2 H3 hi ⟨sm, hl⟩ ⟨rfl, c, hc, rfl⟩
          rw [RT_size] at hi
          rw [RT_get i hi] at hc
          have ec : c = code i := (Option.some.inj hc).symm
          subst ec
          refine ⟨rfl, ?_⟩
          refine ⟨_, rfl, _, rfl, code i, r, rfl, rfl, _, rfl, ifb (fun e => ?_) (fun e => ?_)⟩
          · refine ⟨_, rfl, _, hl, ?_, ?_, ?_⟩
            · rw [List.length_map]
              have := rcs_len (hasR r) i
              exact szn (by omega)
            · exact fun b o e => by
                have n : b ≠ D := ne_of_none e hD
                rw [upd_ne n]; exact sm b o e
            · rw [upd_same, rcs_succ, List.map_append, if_pos (show hasR r i = true from e)]; rfl
          · refine ⟨sm, ?_⟩
            rw [rcs_succ, if_neg (by unfold hasR; rw [e]; exact Bool.false_ne_true), List.append_nil]
            exact hl
        rintro H2 ⟨sm, hl⟩
        rw [RT_size] at hl
        refine ⟨_, rfl, r, rfl, rz, fun L hL => ?_⟩
        have hl2 : (upd H2 L (.lst (signs r))) D = some (.lst ((rcs (hasR r) 9).map V.str)) := by rw [upd_ne (ne_of_none hl hL)]; exact hl
        have S2 : Same H (upd H2 L (.lst (signs r))) := sameN (SG.trans sm) hL
        have hL2 : (upd H2 L (.lst (signs r))) L = some (.lst ((r.cps.toList.map one).map V.str)) := by rw [upd_same, signs_strs]
        generalize upd H2 L _ = H3 at hl2 S2 hL2 ⊢
        refine ⟨_, _, dp_txts hl2, dp_txts hL2, shaped_strs (ok_rcs _), shaped_strs (ok_signs rm), _, rfl, ifnb (fun e => ?_) (fun e5 => ?_)⟩
        · refine q2 (fun b h => ?_) _ S2
          have e6 := rcs_sig (TT b h).2.2.2.2.1
          rw [signs_strs] at e6
          have e7 := (List.map_inj_right (fun a b e => V.str.inj e)).mp e6
          rw [eqv_strs.mpr e7] at e; cases e
        have hr5 : r = rtx (hasR r) := rcs_ext (by rw [signs_strs, eqv_strs.mp e5])
        clear hl hl2 hL2 hL e5 sm hD SG
        clear H2
        clear G1
        refine ⟨_, rfl, _, rfl, _, _, rfl, rfl, _, rfl, ifd (fun l1 => ?_) (fun l1 => ?_)⟩
        case refine_2 => exact ⟨_, rfl, q2 (fun b h => l1 (TT b h).1.2.1) _ S2⟩
        refine ⟨_, _, rfl, rfl, _, rfl, ifnd (fun l2 => ?_) (fun l2 => ?_)⟩
        · exact q2 (fun b h => l2 (TT b h).1.2.2) _ S2
        have bd : Bd a0 a1 := ⟨p0, l1, l2⟩
        refine ⟨_, rfl, _, _, rfl, rfl, _, rfl, ifd (fun c2 => ?_) (fun c2 => ?_)⟩
        · exact q2 (fun b h => by have := (TT b h).2.2.1; omega) _ S2
        refine ⟨_, rfl, _, _, rfl, rfl, _, rfl, ifd (fun c4 => ?_) (fun c4 => ?_)⟩
        · exact q2 (fun b h => by have := (TT b h).2.2.2.1; omega) _ S2
        refine ⟨_, rfl, hasR r, congrArg (fun z => [V.str z]) hr5, fun b6 H4 s4 hb6 => ⟨_, rfl, ifnb (fun e => ?_) (fun e6 => ?_)⟩⟩
        · refine q2 (fun b h => ?_) _ (S2.trans s4)
          rw [hb6.mpr (by rw [← hr5]; exact (TT b h).2.2.2.2.2)] at e; cases e
        have ow : OneW r := by have := hb6.mp e6; rw [← hr5] at this; exact this
        refine ⟨_, rfl, _, rfl, a0, a1, rfl, bd, fun b3 H5 s5 hb3 => ⟨_, rfl, ifnb (fun e => ?_) (fun e3 => ?_)⟩⟩
        · refine q2 (fun b h => ?_) _ (S2.trans (s4.trans s5))
          rw [hb3.mpr (TT b h).2.1] at e; cases e
        obtain ⟨sN, ex⟩ := hb3.mp e3
        have S5 := S2.trans (s4.trans s5)
        clear TT s4 s5 S2 hb3 hb6
        refine ⟨_, rfl, _, rfl, _, rfl, _, rfl, _, rfl, sz (by simp), fun p hp => ⟨.ref p, .bl true, rfl, .inl ⟨p, _, rfl, upd_same, lcons (.int _) (lcons (.int _) (lcons (.int _) (lcons (.str _) (lcons (.int _) lnil)))), fun lo hi at' r' kd ex' hf s q' H' hs sm hn hq => ?_, fun nf => ?_⟩⟩⟩
        · injection ex' with g1 ex'
          injection ex' with g2 ex'
          injection ex' with g3 ex'
          injection ex' with g4 ex'
          injection ex' with g5 ex'
          cases g1; cases g2; cases g3; cases g4; cases g5
          have es : sN = s := ex.1.uniq hs
          subst es
          have mt := DM sN bd ex (by omega) (by omega) hr5 ow
          have S6 := S5.trans (same_new (o := .tup [.int a0, .int a1, .int a2, .str r, .int a4]) hp)
          exact q true _ q' H' (.inl ⟨n64, rfl, mt⟩) (S6.trans sm) (none_back S6 hn) hq
        · exact absurd ⟨a0, a1, a2, r, a4, rfl, bd, ⟨sN, ex⟩, p2, by omega, p4, by omega, hr5, ow⟩ nf

def sp__law_told (K : PySem.W.Frag) : Sp := fun vs H Q _ => ∃ v d, vs = [v] ∧ Dx H v d ∧ (∀ s, d = .str s → s.cps.toList.length ≤ 1000 ∧ ∀ c ∈ s.cps.toList, c < 128) ∧ (∀ s m b q H', d = .str s → RT2 s.cps.toList m b → Same H H' → H q = none → H' q = some (.tup [.bl m, .int b]) → Q (.ref q) H') ∧ ((∀ s m b, d = .str s → ¬ RT2 s.cps.toList m b) → ∀ q H', Same H H' → H q = none → H' q = some (.lst [.str (Str.ofString "none"), .int 0]) → Q (.ref q) H')
theorem ok__law_told {f : Addr} {fd : FuncData} (F : Fun K "_law_told" "_law_told" s__law_told f fd) (T : Txt K w mg) (C_read_word : CalX P w K mg base "read_word" 10 ["text"] (sp_read_word K)) : FnOk P w K mg base CX0 11 f fd ["_law_here"] (sp__law_told K) := by
  obtain ⟨p_NoRows, hk_NoRows, ak_NoRows⟩ := T.k_NoRows
  obtain ⟨p_NoText, hk_NoText, ak_NoText⟩ := T.k_NoText
  refine F.ok sc__law_told (fun vs H Q E h => ?_) (fun cdv A outer s H vs Q E hr h => ?_)
  · obtain ⟨v, d, rfl, hd, hs, q, q2⟩ := h; rfl
  · obtain ⟨v, d, rfl, hd, hs, q, q2⟩ := h
    refine ⟨_, (pss_cons (ps_try_keepN (i := 2) (c := .ref p_NoText) (Wout := fun _ _ _ _ => False) rfl rfl rfl sc__law_told.nd rfl rfl ⟨rfl, by decide, .inl hk_NoText⟩ takes0
      (fun W pn xe tk _ => (pss_one (ps_set (i := 1) sc__law_told.nd rfl (.inl rfl) (by exact (pe_calX C_read_word (hr.mono (by decide)) tk (by exact (pa_cons (pv 0) pa_nil)))))))
      (fun a oe cls d pn hz hf => (pss_one (ps_ret (pe_ifExp (PW.pt (pw_and (pt_not (pt_val (pe_callB (call_isS hz hf) (by rfl) T.z_isinstance (by decide +kernel) (pa_cons (pv 2) (pa_cons (pe_glob (v := .ref p_NoRows) (by rfl) hk_NoRows rfl) pa_nil))))) (pw_and1 (pt_val (pe_callB (call_isS hz hf) (by rfl) T.z_isinstance (by decide +kernel) (pa_cons (pv 2) (pa_cons (pe_bltn (v := .ty "ValueError") (by rfl) T.z_ValueError (by decide +kernel) rfl) pa_nil))))))) (pe_lst (pa_cons pe_str (pa_cons (pe_sf hz hf (pv 2)) pa_nil))) pe_str)))))
      (pss_one (ps_ret (pv 1)))), ?_⟩
    refine ⟨_, rfl, v, d, rfl, hd, fun s e => by have := (hs s e).1; omega, fun s m b q1 H1 e h s1 n1 h1 => ?_, fun no C x H1 hC sm hx => ?_⟩
    · exact ⟨_, rfl, q s m b q1 H1 e h s1 n1 h1⟩
    · refine ⟨true, T.x_NoText_NoText _ _ hC ak_NoText, fun _ a na => ?_, fun z => nomatch z⟩
      have e2 : (upd H1 x (.xd [("number", .int 0)])) x = some (.xd [("number", .int 0)]) := upd_same
      have sm2 : Same H (upd H1 x (.xd [("number", .int 0)])) := sameN sm hx
      refine ⟨_, rfl, C, x, _, _, _, false, rfl, rfl, rfl, e2, T.e_NoText _ hC, .own _, T.i_NoText_NoRows _ _ hC ak_NoRows, ?_⟩
      refine ⟨_, rfl, iteT ?_⟩
      refine ⟨_, rfl, C, x, _, _, _, true, rfl, rfl, rfl, e2, T.e_NoText _ hC, .ty "ValueError", T.i_NoText_ValueError _ hC, ?_⟩
      refine ⟨_, rfl, iteT ?_⟩
      refine ⟨_, rfl, C, x, _, _, rfl, rfl, rfl, e2, T.e_NoText _ hC, T.f_NoText_number _ hC, rfl, ?_⟩
      refine ⟨sz (by simp), fun L hL hLa => ?_⟩
      have nL : L ≠ a := fun z => by rw [z, upd_same] at hLa; cases hLa
      have sL := same_new (o := .lst [.str (Str.ofString "none"), .int 0]) hL
      have nH : H L = none := none_back sm2 hL
      refine q2 no L _ (sm2.trans (sL.trans (same_new hLa))) nH ?_
      rw [upd_ne nL]
      exact upd_same

def sp__law_bent (K : PySem.W.Frag) : Sp := fun vs H Q _ => ∃ (a : Addr) (x y : Int) (z : List Nat), vs = [.ref a, .str (SX.S z)] ∧ Pool H a x y ∧ z.length ≤ 200 ∧ (∀ c ∈ z, c < 128) ∧ ∀ z' x1 y1 H', z'.length ≤ z.length + 4 → (∀ c ∈ z', c < 128) → But a H H' → Pool H' a x1 y1 → Q (.str (SX.S z')) H'
theorem ok__law_bent {f : Addr} {fd : FuncData} (F : Fun K "_law_bent" "_law_bent" s__law_bent f fd) (T : Txt K w mg) (C__law_take : Cal P w K mg base "_law_take" 1 ["_law_pool_here", "_law_many"] (sp__law_take K)) : FnOk P w K mg base CX0 2 f fd ["_law_pool_here", "_law_here"] (sp__law_bent K) := by
  refine F.ok sc__law_bent (fun vs H Q E h => ?_) (fun cdv A outer s H vs Q E hr h => ?_)
  · obtain ⟨a, x, y, z, rfl, hP, hz, hc, q⟩ := h; rfl
  · obtain ⟨a, x, y, z, rfl, hP, hz, hc, q⟩ := h
    refine ⟨_, (pss_cons (ps_set (i := 2) sc__law_bent.nd rfl (.inl rfl) (pe_cal C__law_take (hr.mono (by decide)) (pa_cons (pv 0) (pa_cons (pe_op op_add (pe_callB call_len_str (by rfl) T.z_len (by decide +kernel) (pa_cons (pv 1) pa_nil)) pe_int) pa_nil))))
      (pss_cons (ps_set (i := 3) sc__law_bent.nd rfl (.inl rfl) (pe_lst (pa_cons pe_str (pa_cons pe_str (pa_cons pe_str (pa_cons pe_str (pa_cons pe_str (pa_cons pe_str (pa_cons pe_str (pa_cons pe_str (pa_cons pe_str (pa_cons pe_str (pa_cons pe_str (pa_cons pe_str (pa_cons pe_str (pa_cons pe_str (pa_cons pe_str (pa_cons pe_str pa_nil))))))))))))))))))
      (pss_one (ps_ret (pe_op op_add_str (pe_op op_add_str (pe_slice sl_str (pv 1) po_none (po_some (pv 2))) (pe_ix (r := rIxL K) ix_list (pv 3) (pe_cal C__law_take (hr.mono (by decide)) (pa_cons (pv 0) (pa_cons pe_int pa_nil))) (fun _ _ => rfl))) (pe_slice sl_str (pv 1) (po_some (pe_op op_add (pv 2) (pe_cal C__law_take (hr.mono (by decide)) (pa_cons (pv 0) (pa_cons pe_int pa_nil))))) po_none)))))), ?_⟩
    refine ⟨_, rfl, _, rfl, _, rfl, by rw [SX.S_len, sizeLine_eq]; omega, _, _, rfl, rfl, a, x, y, _, rfl, hP, by omega, by rw [SX.S_len]; omega, fun r1 x1 y1 r10 r11 P1 => ?_⟩
    rw [SX.S_len] at r11
    have B1 := (But.refl a H).upd (o := .lst [.int x1, .int y1])
    generalize upd H a _ = H1 at P1 B1 ⊢
    obtain ⟨n, rfl⟩ : ∃ n : Nat, r1 = (n : Int) := ⟨r1.toNat, by omega⟩
    refine ⟨sz (by simp), fun L hL => ?_⟩
    have nL : L ≠ a := (ne_of_none P1.1 hL).symm
    have B2 := B1.new (o := .lst [V.str (Str.ofString ""), V.str (Str.ofString "0"), V.str (Str.ofString "1"), V.str (Str.ofString "-"), V.str (Str.ofString "@"), V.str (Str.ofString ":"), V.str (Str.ofString "/"), V.str (Str.ofString "r"), V.str (Str.ofString "w"), V.str (Str.ofString "x"), V.str (Str.ofString " "), V.str (Str.ofString "4096"), V.str (Str.ofString "99"), V.str (Str.ofString "\n"), V.str (Str.ofString "A"), V.str (Str.ofString "c")]) hL
    have P2 := P1.new (o := .lst [V.str (Str.ofString ""), V.str (Str.ofString "0"), V.str (Str.ofString "1"), V.str (Str.ofString "-"), V.str (Str.ofString "@"), V.str (Str.ofString ":"), V.str (Str.ofString "/"), V.str (Str.ofString "r"), V.str (Str.ofString "w"), V.str (Str.ofString "x"), V.str (Str.ofString " "), V.str (Str.ofString "4096"), V.str (Str.ofString "99"), V.str (Str.ofString "\n"), V.str (Str.ofString "A"), V.str (Str.ofString "c")]) hL
    have eL : (upd H1 L (.lst [V.str (Str.ofString ""), V.str (Str.ofString "0"), V.str (Str.ofString "1"), V.str (Str.ofString "-"), V.str (Str.ofString "@"), V.str (Str.ofString ":"), V.str (Str.ofString "/"), V.str (Str.ofString "r"), V.str (Str.ofString "w"), V.str (Str.ofString "x"), V.str (Str.ofString " "), V.str (Str.ofString "4096"), V.str (Str.ofString "99"), V.str (Str.ofString "\n"), V.str (Str.ofString "A"), V.str (Str.ofString "c")])) L = some (.lst [V.str (Str.ofString ""), V.str (Str.ofString "0"), V.str (Str.ofString "1"), V.str (Str.ofString "-"), V.str (Str.ofString "@"), V.str (Str.ofString ":"), V.str (Str.ofString "/"), V.str (Str.ofString "r"), V.str (Str.ofString "w"), V.str (Str.ofString "x"), V.str (Str.ofString " "), V.str (Str.ofString "4096"), V.str (Str.ofString "99"), V.str (Str.ofString "\n"), V.str (Str.ofString "A"), V.str (Str.ofString "c")]) := upd_same
    have all : ∀ v ∈ [V.str (Str.ofString ""), V.str (Str.ofString "0"), V.str (Str.ofString "1"), V.str (Str.ofString "-"), V.str (Str.ofString "@"), V.str (Str.ofString ":"), V.str (Str.ofString "/"), V.str (Str.ofString "r"), V.str (Str.ofString "w"), V.str (Str.ofString "x"), V.str (Str.ofString " "), V.str (Str.ofString "4096"), V.str (Str.ofString "99"), V.str (Str.ofString "\n"), V.str (Str.ofString "A"), V.str (Str.ofString "c")], OddT v := lcons odd_lit (lcons odd_lit (lcons odd_lit (lcons odd_lit (lcons odd_lit (lcons odd_lit (lcons odd_lit (lcons odd_lit (lcons odd_lit (lcons odd_lit (lcons odd_lit (lcons odd_lit (lcons odd_lit (lcons odd_lit (lcons odd_lit (lcons odd_lit lnil)))))))))))))))
    have len16 : ([V.str (Str.ofString ""), V.str (Str.ofString "0"), V.str (Str.ofString "1"), V.str (Str.ofString "-"), V.str (Str.ofString "@"), V.str (Str.ofString ":"), V.str (Str.ofString "/"), V.str (Str.ofString "r"), V.str (Str.ofString "w"), V.str (Str.ofString "x"), V.str (Str.ofString " "), V.str (Str.ofString "4096"), V.str (Str.ofString "99"), V.str (Str.ofString "\n"), V.str (Str.ofString "A"), V.str (Str.ofString "c")] : List V).length = 16 := rfl
    generalize [V.str (Str.ofString ""), V.str (Str.ofString "0"), V.str (Str.ofString "1"), V.str (Str.ofString "-"), V.str (Str.ofString "@"), V.str (Str.ofString ":"), V.str (Str.ofString "/"), V.str (Str.ofString "r"), V.str (Str.ofString "w"), V.str (Str.ofString "x"), V.str (Str.ofString " "), V.str (Str.ofString "4096"), V.str (Str.ofString "99"), V.str (Str.ofString "\n"), V.str (Str.ofString "A"), V.str (Str.ofString "c")] = ws at eL all len16 B2 P2 ⊢
    generalize upd H1 L _ = H2 at eL B2 P2 ⊢
    have l1 : ∀ z : List Nat, (SX.S z).length = z.length := SX.S_len
    have lz : (SX.S z).length ≤ sizeLine := by rw [SX.S_len, sizeLine_eq]; omega
    refine ⟨_, rfl, _, rfl, _, rfl, _, rfl, lz, ?_⟩
    rw [cutS_to]
    refine ⟨_, rfl, _, rfl, a, x1, y1, _, rfl, P2, by decide, by decide, fun r2 x2 y2 r20 r21 P3 => ?_⟩
    obtain ⟨v, hv, w, rfl, w1, w2⟩ := pick (xs := ws) OddT r20 (by rw [len16]; exact r21) all
    refine ⟨L, ws, r2, _, rfl, rfl, .of (by rw [upd_ne nL]; exact eL), hv, _, _, rfl, rfl, by rw [sizeLine_eq, l1, l1, List.length_take]; omega, ?_⟩
    rw [SX.S_cat]
    have B3 := B2.upd (o := .lst [.int x2, .int y2])
    generalize upd H2 a _ = H3 at P3 B3 ⊢
    refine ⟨_, rfl, _, rfl, _, rfl, a, x2, y2, _, rfl, P3, by decide, by decide, fun r3 x3 y3 r30 r31 P4 => ?_⟩
    have B4 := B3.upd (o := .lst [.int x3, .int y3])
    generalize upd H3 a _ = H4 at P4 B4 ⊢
    obtain ⟨m, rfl⟩ : ∃ m : Nat, r3 = (m : Int) := ⟨r3.toNat, by omega⟩
    refine ⟨_, _, rfl, rfl, _, rfl, _, rfl, lz, ?_⟩
    rw [show ((n : Int) + (m : Int)) = ((n + m : Nat) : Int) from by omega, cutS_from]
    refine ⟨_, _, rfl, rfl, by rw [sizeLine_eq, l1, l1, List.length_append, List.length_take, List.length_drop]; omega, ?_⟩
    rw [SX.S_cat]
    refine q _ x3 y3 H4 ?_ ?_ B4 P4
    · rw [List.length_append, List.length_append, List.length_take, List.length_drop]; omega
    · intro c h
      rcases List.mem_append.mp h with h | h
      · rcases List.mem_append.mp h with h | h
        · exact hc c (List.mem_of_mem_take h)
        · exact w2 c h
      · exact hc c (List.mem_of_mem_drop h)

theorem ok_law {f : Addr} {oc kV dc pm cdv ct : Value} {od an : Option Addr} {osl : Array (Option Value)} (lk : K.lookup f = some ⟨oc, od, .func (PySem.W.fnOf "law" "law" (defArgs s_law) (defBody s_law) (defScope s_law) .none kV dc pm an cdv ct), osl⟩) (hcd : PySem.W.codeIn K cdv "law" = true) (T : Txt K w mg) (C_word_of : CalXD P w K mg base "word_of" 8 ["fields", "marked"] [.bl true] (sp_word_of K)) (C_is_lawful : Cal P w K mg base "is_lawful" 4 ["thing"] (sp_is_lawful K)) (C_shown_word : Cal P w K mg base "shown_word" 4 ["word"] (sp_shown_word K)) (C_shown_word_n_word : CalN CX0 P w K mg base "shown_word" 4 ["word"] ["word"] id (sp_shown_word K)) (C_read_word : CalX P w K mg base "read_word" 10 ["text"] (sp_read_word K)) (C_read_word_n_text : CalN (L2.CX P w) P w K mg base "read_word" 10 ["text"] ["text"] id (sp_read_word K)) (C__law_pool : Cal P w K mg base "_law_pool" 1 ["_law_script", "_law_k"] (sp__law_pool K)) (C__law_drawn : Cal P w K mg base "_law_drawn" 3 ["_law_pool_here"] (sp__law_drawn K)) (C__law_text : Cal P w K mg base "_law_text" 2 ["_law_own"] (sp__law_text K)) (C__law_due : Cal P w K mg base "_law_due" 9 ["_law_here"] (sp__law_due K)) (C__law_told : Cal P w K mg base "_law_told" 11 ["_law_here"] (sp__law_told K)) (C__law_bent : Cal P w K mg base "_law_bent" 2 ["_law_pool_here", "_law_here"] (sp__law_bent K)) {s : Shared} {H : Hp} {a : Addr} {ns : List Int} (e0 : Env0 P w K mg base callerA [] s H) (hS : SqL K H a (ns.map V.int)) (hlen : ns.length ≤ 63) :
    codeAny (model P w) callerA (.call (.ref f) ⟨[.ref a], []⟩) (CR CX0 [] P w H s (fun v _ => v = .bl true) fun _ _ _ => False) s := by
  have hr : Room 11 (callerA.deeper (envOfC "law" (defScope s_law) s.heap.objs.size f cdv)) := Room.deeper (k := 11) ⟨rfl, by decide, by decide⟩ _
  have gd : (callerA.deeper (envOfC "law" (defScope s_law) s.heap.objs.size f cdv)).guards = some [] := caller_guards
  generalize hQ : (fun (v : V) (_ : Hp) => v = V.bl true) = Q
  have q : ∀ H', Q (.bl true) H' := fun _ => by rw [← hQ]
  refine body_at (N := ["_law_script", "_law_k", "_law_pool_here", "_law_bits_here", "_law_own", "_law_here", "_law_one", "_law_thing", "_law_due_here", "_law_some"]) (ps := ["_law_script"]) (vs := [.ref a]) (us := [.ref a]) lk hcd sc_law rfl (k := 11) ⟨rfl, by decide, by decide⟩ e0 (.of_eq rfl) (.cons rfl .nil) ?_
  refine ⟨_, PSs.nox (pss_cons (ps_for PassesOwn.never rfl (pi_range1 (by rfl) T.z_range (pa_cons (pe_callB (call_max2 rfl) (by rfl) T.z_max (by decide +kernel) (pa_cons pe_int (pa_cons (pe_callB (call_min2 rfl) (by rfl) T.z_min (by decide +kernel) (pa_cons (pe_callB call_len_seq (by rfl) T.z_len (by decide +kernel) (pa_cons (pv 0) pa_nil)) (pa_cons pe_int pa_nil))) pa_nil))) pa_nil)) (pg_name (i := 1) sc_law.nd rfl (.inl rfl)) (pss_cons (ps_set (i := 2) sc_law.nd rfl (.inl rfl) (pe_cal C__law_pool (hr.mono (by decide)) (pa_cons (pv 0) (pa_cons (pv 1) pa_nil))))
      (pss_cons (ps_set (i := 3) sc_law.nd rfl (.inl rfl) (pe_cal C__law_drawn (hr.mono (by decide)) (pa_cons (pv 2) pa_nil)))
      (pss_cons (ps_for PassesOwn.never rfl (pi_list (pe_lst (pa_cons (pe_tup (pa_cons pe_bl (pa_cons (pv 3) pa_nil))) (pa_cons (pe_tup (pa_cons pe_bl (pa_cons (pv 3) pa_nil))) pa_nil)))) (pg_name (i := 4) sc_law.nd rfl (.inl rfl)) (pss_one (ps_if (pt_val (pe_cal C_is_lawful (hr.mono (by decide)) (pa_cons (pv 4) pa_nil))) (pss_cons (ps_set (i := 5) sc_law.nd rfl (.inl rfl) (pe_cal C__law_text (hr.mono (by decide)) (pa_cons (pv 4) pa_nil)))
      (pss_cons (ps_set (i := 6) sc_law.nd rfl (.inl rfl) (pe_cal C__law_bent (hr.mono (by decide)) (pa_cons (pv 2) (pa_cons (pv 5) pa_nil))))
      (pss_cons (ps_if (PW.pt (pw_or (pt_cmpR op_ne (pe_cal C_shown_word (hr.mono (by decide)) (pa_cons (pv 4) pa_nil)) (pv 5) (nomark _)) (pw_or1 (pt_cmpR (r := rNeD K) (op_neD hr.units) (pe_calX0 C_read_word (hr.mono (by decide)) (pa_cons (pv 5) pa_nil)) (pv 4) (nomark _))))) (pss_one (ps_ret pe_bl)) pss_nil)
      (pss_one (ps_for PassesOwn.never rfl (pi_list (pe_lst (pa_cons (pv 6) (pa_cons (pe_cal C__law_bent (hr.mono (by decide)) (pa_cons (pv 2) (pa_cons (pv 6) pa_nil))) (pa_cons (pe_op op_add_str (pv 5) pe_str) (pa_cons (pe_revS (pv 5)) (pa_cons (pe_lst (pa_cons (pv 5) pa_nil)) (pa_cons (pv 4) pa_nil)))))))) (pg_name (i := 7) sc_law.nd rfl (.inl rfl)) (pss_cons (ps_set (i := 8) sc_law.nd rfl (.inl rfl) (pe_cal C__law_due (hr.mono (by decide)) (pa_cons (pv 7) pa_nil)))
      (pss_one (ps_if (pt_cmpR op_ne (pe_callB (call_reprD gd hr.units) (by rfl) T.z_repr (by decide +kernel) (pa_cons (pe_cal C__law_told (hr.mono (by decide)) (pa_cons (pv 7) pa_nil)) pa_nil)) (pe_callB (call_reprD gd hr.units) (by rfl) T.z_repr (by decide +kernel) (pa_cons (pe_ifExp (pt_cmpR op_isN (pv 8) pe_non (nomark _)) (pe_lst (pa_cons pe_str (pa_cons pe_int pa_nil))) (pv 8)) pa_nil)) (nomark _)) (pss_one (ps_ret pe_bl)) pss_nil)))))))) pss_nil)))
      (pss_cons (ps_set (i := 9) sc_law.nd rfl (.inl rfl) (pe_lst (pa_cons pe_non (pa_cons pe_str (pa_cons pe_int (pa_cons pe_bl (pa_cons pe_str (pa_cons pe_str (pa_cons pe_str (pa_cons pe_str (pa_cons pe_str (pa_cons (pe_callTy call_strIS (by rfl) T.z_str (by decide +kernel) (pa_cons (pe_op op_shl pe_int pe_int) pa_nil)) (pa_cons (pe_callTy call_strIS (by rfl) T.z_str (by decide +kernel) (pa_cons (pe_op op_sub (pe_op op_shl pe_int pe_int) pe_int) pa_nil)) pa_nil)))))))))))))
      (pss_cons (ps_set (i := 9) sc_law.nd rfl (.inl rfl) (pe_op op_cat (pv 9) (pe_lst (pa_cons (pe_op op_mulS pe_str pe_int) (pa_cons (pe_op op_add_str (pe_op op_add_str pe_str (pe_op op_mulS pe_str pe_int)) pe_str) pa_nil)))))
      (pss_one (ps_for PassesOwn.never rfl (pi_list (pe_op op_cat (pv 9) (pe_lst (pa_cons pe_str (pa_cons pe_str (pa_cons pe_str (pa_cons pe_str (pa_cons pe_str pa_nil)))))))) (pg_name (i := 7) sc_law.nd rfl (.inl rfl)) (pss_cons (ps_set (i := 8) sc_law.nd rfl (.inl rfl) (pe_cal C__law_due (hr.mono (by decide)) (pa_cons (pv 7) pa_nil)))
      (pss_one (ps_if (pt_cmpR op_ne (pe_callB (call_reprD gd hr.units) (by rfl) T.z_repr (by decide +kernel) (pa_cons (pe_cal C__law_told (hr.mono (by decide)) (pa_cons (pv 7) pa_nil)) pa_nil)) (pe_callB (call_reprD gd hr.units) (by rfl) T.z_repr (by decide +kernel) (pa_cons (pe_ifExp (pt_cmpR op_isN (pv 8) pe_non (nomark _)) (pe_lst (pa_cons pe_str (pa_cons pe_int pa_nil))) (pv 8)) pa_nil)) (nomark _)) (pss_one (ps_ret pe_bl)) pss_nil)))))))))))
      (pss_one (ps_ret (pe_and (pe_cmpR (r := rEqD K) (op_eqD hr.units) (pe_calN C_read_word_n_text (hr.mono (by decide)) passL (pk_cons pe_str pk_nil)) (pe_calXD0 C_word_of (hr.mono (by decide)) (pa_cons (pe_tup (pa_cons pe_int (pa_cons pe_int (pa_cons pe_int (pa_cons pe_str (pa_cons pe_int pa_nil)))))) pa_nil)) (nomark _)) (pe_one (pe_cmpR op_eq (pe_calN C_shown_word_n_word (hr.mono (by decide)) pass0 (pk_cons (pe_tup (pa_cons pe_bl (pa_cons pe_int pa_nil))) pk_nil)) pe_str (nomark _))))))), ?_⟩
  refine ⟨_, rfl, a, _, rfl, .inl hS, _, _, rfl, _, _, rfl, _, rfl, rep_lo (c := 20) (by decide) (by decide), rep_hi (c := 20) (by decide) (by decide), for_range (fun i σ H' => ∃ v1 v2 v3 v4 v5 v6 v7 v8 v9, σ = [some (.ref a), v1, v2, v3, v4, v5, v6, v7, v8, v9] ∧ Same H H') ⟨_, _, _, _, _, _, _, _, _, rfl, Same.refl _⟩ ?_ ?_⟩
  · rintro i σ H3 hi ⟨v1, v2, v3, v4, v5, v6, v7, v8, v9, rfl, s3⟩
    have hi63 := rep_i (c := 20) (by decide) (by decide) hi
    rw [i0]
    refine ⟨_, rfl, _, rfl, a, ns, i, rfl, s3.seq hS, hlen, hi63, fun x y p H4 sm4 hp0 P4 => ?_⟩
    refine ⟨_, rfl, p, x, y, rfl, P4, fun b x1 y1 H5 wb B5 P5 => ?_⟩
    have S5 := same_pool sm4 hp0 B5
    refine ⟨_, rfl, sz (by simp), fun t1 h1 => ⟨_, rfl, sz (by simp), fun t2 h2 => ⟨sz (by simp), fun L hL => ⟨L, rfl, ⟨_, .of upd_same⟩, ?_⟩⟩⟩⟩
    have g1 := ((same_new (o := .tup [.bl true, .int b]) h2).trans (same_new (o := .lst [.ref t1, .ref t2]) hL)) _ _ (upd_same (H := H5) (a := t1) (o := .tup [.bl false, .int b]))
    have g2 := (same_new (o := .lst [.ref t1, .ref t2]) hL) _ _ (upd_same (H := upd H5 t1 (.tup [.bl false, .int b])) (a := t2) (o := .tup [.bl true, .int b]))
    have P6 := ((P5.new (o := .tup [.bl false, .int b]) h1).new (o := .tup [.bl true, .int b]) h2).new (o := .lst [.ref t1, .ref t2]) hL
    have S6 := ((S5.trans (same_new (o := .tup [.bl false, .int b]) h1)).trans (same_new (o := .tup [.bl true, .int b]) h2)).trans (same_new (o := .lst [.ref t1, .ref t2]) hL)
    have eL : (upd (upd (upd H5 t1 (.tup [.bl false, .int b])) t2 (.tup [.bl true, .int b])) L (.lst [.ref t1, .ref t2])) L = some (.lst [.ref t1, .ref t2]) := upd_same
    have nL : L ≠ p := (ne_of_none ((P5.new (o := .tup [.bl false, .int b]) h1).new (o := .tup [.bl true, .int b]) h2).1 hL).symm
    have nt1 : t1 ≠ p := (ne_of_none P5.1 h1).symm
    have nt2 : t2 ≠ p := (ne_of_none (P5.new (o := .tup [.bl false, .int b]) h1).1 h2).symm
    clear h1 h2 hL P5 S5 B5 P4
    generalize upd (upd (upd H5 t1 _) t2 _) L _ = G at g1 g2 P6 S6 eL ⊢
    clear sm4
    clear H5 H4
    refine for_list (K := K) (a := L) (xs := [.ref t1, .ref t2]) (fun j σ H' => ∃ v4 v5 v6 v7 v8 v9 x2 y2, σ = [some (.ref a), some (.int (i : Int)), some (.ref p), some (.int b), v4, v5, v6, v7, v8, v9] ∧ But p G H' ∧ Pool H' p x2 y2) ⟨_, _, _, _, _, _, _, _, rfl, But.refl p G, P6⟩ (fun j σ H' _ ⟨_, _, _, _, _, _, _, _, _, B, _⟩ => .of (B _ _ nL eL)) ?_ ?_
    · rintro j xx σ H7 hx ⟨v4, v5, v6, v7, v8, v9, x2, y2, rfl, B7, P7⟩
      obtain ⟨tq, m, rfl, gq, nq⟩ : ∃ tq m, xx = V.ref tq ∧ G tq = some (.tup [.bl m, .int b]) ∧ tq ≠ p := by
        have := List.mem_of_getElem? hx
        simp only [List.mem_cons, List.not_mem_nil, or_false] at this
        rcases this with z | z
        · exact ⟨t1, false, z, g1, nt1⟩
        · exact ⟨t2, true, z, g2, nt2⟩
      have f7 := B7 _ _ nq gq
      refine ⟨_, rfl, .ref tq, rfl, .inl ⟨tq, _, rfl, f7, lcons (.bl _) (lcons (.int _) lnil), fun bb H8 s8 hb => ⟨bb, rfl, ifb (fun e => ?_) (fun _ => ⟨_, _, _, _, _, _, _, _, rfl, B7.trans (.of s8), P7.same s8⟩)⟩⟩⟩
      obtain ⟨m', n', ex, w, l⟩ := hb.mp e
      injection ex with e1 ex
      injection ex with e2 ex
      cases e1; cases e2
      have f8 := s8 _ _ f7
      refine ⟨_, rfl, tq, m, b, rfl, f8, w, l, fun z H9 s9 wt => ?_⟩
      have zl := wt.len
      have za := wt.ascii
      have P9 := (P7.same s8).same s9
      have B9 := (B7.trans (.of s8)).trans (.of s9)
      have f9 := s9 _ _ f8
      clear hb s8 s9 f8 f7 B7 P7
      clear H8 H7
      refine ⟨_, rfl, _, rfl, p, x2, y2, z, rfl, P9, by omega, za, fun z1 x3 y3 H10 l1 c1 B10 P10 => ?_⟩
      have f10 := B10 _ _ nq f9
      refine ⟨_, rfl, tq, m, b, rfl, f10, w, l, fun z' H11 s11 wt' => ?_⟩
      have ez : z' = z := wt'.text wt
      subst ez
      clear wt'
      refine ⟨_, rfl, rfl, _, rfl, ifnd (fun c => absurd rfl c) (fun _ => ?_)⟩
      refine ⟨_, rfl, .str (SX.S z'), .str (SX.S z'), rfl, .str _, rb_len wt, fun _ _ _ r1 H12 e h s12 n12 h12 => ?_, fun no => rb_no wt no⟩
      replace h12 := rb_fix wt e h h12
      have f12 := s12 _ _ (s11 _ _ f10)
      refine ⟨_, rfl, _, _, wD_dp h12, wD_dp f12, wD_sh .., wD_sh .., _, rfl, ifbF (by rw [wD_eqv]; simp) ?_⟩
      have B12 := ((B9.trans B10).trans (.of s11)).trans (.of s12)
      have P12 := (P10.same s11).same s12
      clear e h s11 s12 n12 h12 f10 f9 B9 B10 P9 P10
      clear H11 H10 H9
      refine ⟨_, rfl, _, rfl, _, rfl, p, x3, y3, z1, rfl, P12, by omega, c1, fun z2 x4 y4 H13 l2 c2 B13 P13 => ?_⟩
      have f13 := B13 _ _ nq f12
      have B14 := B12.trans B13
      clear B13 B12 P12 f12
      clear H12
      refine ⟨_, rfl, _, _, rfl, rfl, fit_S rfl nl_S (by rw [List.length_append, List.length_singleton]; omega), ?_⟩
      rw [cat_S rfl nl_S]
      refine ⟨_, rfl, _, rfl, by rw [SX.S_len, sizeLine_eq]; omega, fun rv rl rc => ?_⟩
      refine ⟨_, rfl, sz (by simp), fun L3 h3 => ⟨_, rfl, sz (by simp), fun L4 h4 => ⟨L4, rfl, ⟨_, .of upd_same⟩, ?_⟩⟩⟩
      have S4 := (same_new (o := .lst [.str (SX.S z')]) h3).trans (same_new (o := .lst [.str (SX.S z1), .str (SX.S z2), .str (SX.S (z' ++ [10])), .str rv, .ref L3, .ref tq]) h4)
      have e3 := (same_new (o := .lst [.str (SX.S z1), .str (SX.S z2), .str (SX.S (z' ++ [10])), .str rv, .ref L3, .ref tq]) h4) _ _ (upd_same (H := H13) (a := L3) (o := .lst [.str (SX.S z')]))
      have e4 : (upd (upd H13 L3 (.lst [.str (SX.S z')])) L4 (.lst [.str (SX.S z1), .str (SX.S z2), .str (SX.S (z' ++ [10])), .str rv, .ref L3, .ref tq])) L4 = some (.lst [.str (SX.S z1), .str (SX.S z2), .str (SX.S (z' ++ [10])), .str rv, .ref L3, .ref tq]) := upd_same
      have P15 := P13.same S4
      have B15 := B14.trans (.of S4)
      have f15 := S4 _ _ f13
      clear h3 h4 S4 f13 B14 P13
      generalize upd (upd H13 L3 _) L4 _ = G2 at e3 e4 P15 B15 f15 ⊢
      clear H13
      have rv1 : rv.cps.toList.length ≤ 1000 := by
        have h1 : rv.length ≤ 1000 := Nat.le_trans rl (by rw [SX.S_len]; omega)
        have h2 : rv.length = rv.cps.toList.length := by show rv.cps.size = _; simp
        omega
      have all : ∀ v ∈ [V.str (SX.S z1), .str (SX.S z2), .str (SX.S (z' ++ [10])), .str rv, .ref L3, .ref tq], OkT G2 v := lcons (okt_S (by omega) c1) (lcons (okt_S (by omega) c2) (lcons (okt_S (by rw [List.length_append, List.length_singleton]; omega) fun c h => (List.mem_append.mp h).elim (za c) fun h => by rw [List.mem_singleton.mp h]; decide) (lcons (okt_str rv1 fun c h => za c (rc c h)) (lcons (okt_lst e3) (lcons (okt_tup f15) lnil)))))
      refine for_list (K := K) (a := L4) (xs := [V.str (SX.S z1), .str (SX.S z2), .str (SX.S (z' ++ [10])), .str rv, .ref L3, .ref tq]) (fun j σ H' => ∃ v7 v8, σ = [some (.ref a), some (.int (i : Int)), some (.ref p), some (.int b), some (.ref tq), some (.str (SX.S z')), some (.str (SX.S z1)), v7, v8, v9] ∧ Same G2 H') ⟨_, _, rfl, Same.refl _⟩ (fun j σ H' _ ⟨_, _, _, sm⟩ => .of (sm _ _ e4)) ?_ ?_
      · rintro j2 xx σ G3 hx2 ⟨v7, v8, rfl, sm⟩
        have okx := (all xx (List.mem_of_getElem? hx2)).same sm
        obtain ⟨d, hd, hs⟩ := okx
        refine ⟨_, rfl, xx, d, rfl, hd, hs, fun s' m' b' r1 K1 e h u1 n1 h1 => ?_, fun no K1 u1 => ?_⟩
        · obtain ⟨D, dpD, ff⟩ : ∃ D : PyData, (∀ (H : Hp) (q : Addr), H q = some (.tup [.bl m', .int b']) → Dp K H (.ref q) D) ∧ D.showable = true ∧ D.hasDict = false ∧ D.depth ≤ 50 ∧ D.shown.length ≤ sizeLine := ⟨wD m' b', fun H q h => wD_dp h, (wD_nice h.w45).ff (by decide)⟩
          refine ⟨_, rfl, xx, d, rfl, hd.same u1, hs, fun s'' m2 b2 r2 K2 e2 h2 u2 n2 g2 => ?_, fun no => absurd h (no _ _ _ e)⟩
          have es : s'' = s' := by rw [e] at e2; cases e2; rfl
          subst es
          obtain ⟨em, eb⟩ := h2.one h
          subst em eb
          refine ⟨.ref r2, D, rfl, dpD _ _ g2, ff.1, ff.2.1, ff.2.2.1, ff.2.2.2, ?_⟩
          refine ⟨_, rfl, rfl, _, rfl, ifd (fun c => nomatch c) (fun _ => ?_)⟩
          refine ⟨_, rfl, .ref r1, D, rfl, dpD _ _ (u2 _ _ h1), ff.1, ff.2.1, ff.2.2.1, ff.2.2.2, ?_⟩
          refine ⟨rfl, _, rfl, ifnd (fun c => absurd rfl c) (fun _ => ?_)⟩
          exact ⟨_, _, rfl, sm.trans (u1.trans u2)⟩
        · obtain ⟨D, dpD, ff⟩ : ∃ D : PyData, (∀ (H : Hp) (q : Addr), H q = some (.lst [.str (Str.ofString "none"), .int 0]) → Dp K H (.ref q) D) ∧ D.showable = true ∧ D.hasDict = false ∧ D.depth ≤ 50 ∧ D.shown.length ≤ sizeLine := ⟨NL, fun H q h => NL_dp h, NL_nice.ff (by decide)⟩
          refine ⟨_, rfl, xx, d, rfl, hd.same u1, hs, fun s'' m2 b2 r2 K2 e2 h2 u2 n2 g2 => absurd h2 (no _ _ _ e2), fun no r2 K2 u2 n2 g2 => ?_⟩
          refine ⟨.ref r2, D, rfl, dpD _ _ g2, ff.1, ff.2.1, ff.2.2.1, ff.2.2.2, ?_⟩
          refine ⟨_, rfl, rfl, _, rfl, ifd (fun _ => ?_) (fun c => absurd rfl c)⟩
          refine ⟨sz (by simp), fun L9 n9 => ?_⟩
          refine ⟨.ref L9, D, rfl, dpD _ _ upd_same, ff.1, ff.2.1, ff.2.2.1, ff.2.2.2, ?_⟩
          refine ⟨rfl, _, rfl, ifnd (fun c => absurd rfl c) (fun _ => ?_)⟩
          exact ⟨_, _, rfl, sm.trans ((u1.trans u2).trans (same_new (o := .lst [.str (Str.ofString "none"), .int 0]) n9))⟩
      · rintro σ G3 ⟨v7, v8, rfl, sm⟩
        exact ⟨_, _, _, _, _, _, _, _, rfl, B15.trans (.of sm), P15.same sm⟩
    · rintro σ H7 ⟨v4, v5, v6, v7, v8, v9, x2, y2, rfl, B7, P7⟩
      have SG : Same H H7 := s3.trans (fun q o e => B7 q o (ne_of_none e hp0) (S6 q o e))
      refine ⟨_, _, rfl, rfl, cpw (by decide) (by decide) (by decide) (by decide), .inl ⟨_, rfl, log_small (by decide +kernel), ?_⟩⟩
      refine ⟨_, _, rfl, rfl, cpw (by decide) (by decide) (by decide) (by decide), _, _, rfl, rfl, .inl ⟨_, rfl, log_small (by decide +kernel), ?_⟩⟩
      refine ⟨sz (by simp), fun L1 n1 => ?_⟩
      obtain ⟨A1, eA1⟩ : ∃ A1 : List V, A1 = [V.non, .str (Str.ofString ""), .int 5, .bl true, .str (Str.ofString "-"), .str (Str.ofString "0-1@0:/0"), .str (Str.ofString "0-1@0:-/0"), .str (Str.ofString "00"), .str (Str.ofString "0-17@0:r/0"), .str (Str.ofString (toString ((1 : Int) * 2 ^ (45 : Int).toNat))), .str (Str.ofString (toString ((1 : Int) * 2 ^ (45 : Int).toNat - 1)))] := ⟨_, rfl⟩
      have all1 : ∀ v ∈ A1, ∀ G : Hp, OkT G v := by
        rw [eA1]
        exact lcons (fun _ => okt_non) (lcons (fun _ => okt_lit) (lcons (fun _ => okt_int _) (lcons (fun _ => okt_bl _) (lcons (fun _ => okt_lit) (lcons (fun _ => okt_lit) (lcons (fun _ => okt_lit) (lcons (fun _ => okt_lit) (lcons (fun _ => okt_lit) (lcons (fun _ => okt_num (by decide +kernel) (by decide +kernel)) (lcons (fun _ => okt_num (by decide +kernel) (by decide +kernel)) lnil))))))))))
      have len1 : A1.length = 11 := by rw [eA1]; rfl
      have S1 := same_new (o := .lst A1) n1
      have f1 : (upd H7 L1 (.lst A1)) L1 = some (.lst A1) := upd_same
      rw [eA1] at S1 f1
      generalize upd H7 L1 _ = G1 at S1 f1 ⊢
      rw [← eA1] at f1
      clear eA1 n1
      refine ⟨_, rfl, [49], 61, congrArg V.str (sgn_S 49 "1"), rfl, by decide, by decide, by decide, ?_⟩
      refine ⟨[49], 61, congrArg V.str (sgn_S 49 "1"), rfl, by decide, by decide, by decide, _, _, rfl, rfl, by rw [sizeLine_eq]; decide +kernel, _, _, rfl, rfl, by rw [sizeLine_eq]; decide +kernel, ?_⟩
      refine ⟨sz (by simp), fun L2 n2 => ?_⟩
      obtain ⟨A2, eA2⟩ : ∃ A2 : List V, A2 = [V.str (SX.S (List.replicate (61 : Int).toNat [49]).flatten), .str (Str.ofString "0-" ++ SX.S (List.replicate (61 : Int).toNat [49]).flatten ++ Str.ofString "@0:r/0")] := ⟨_, rfl⟩
      have all2 : ∀ v ∈ A2, ∀ G : Hp, OkT G v := by
        rw [eA2]
        exact lcons (fun _ => okt_S (by decide +kernel) (by decide +kernel)) (lcons (fun _ => okt_str (by decide +kernel) (by decide +kernel)) lnil)
      have len2 : A2.length = 2 := by rw [eA2]; rfl
      have S2 := same_new (o := .lst A2) n2
      have f2 : (upd G1 L2 (.lst A2)) L2 = some (.lst A2) := upd_same
      rw [eA2] at S2 f2
      generalize upd G1 L2 _ = G2 at S2 f2 ⊢
      rw [← eA2] at f2
      clear eA2 n2
      refine ⟨L1, L2, A1, A2, rfl, rfl, S2 _ _ f1, f2, by rw [len1, len2, sizeLine_eq]; decide, fun L3 n3 => ?_⟩
      have S3 := same_new (o := .lst (A1 ++ A2)) n3
      have f3 : (upd G2 L3 (.lst (A1 ++ A2))) L3 = some (.lst (A1 ++ A2)) := upd_same
      have S13 := S1.trans (S2.trans S3)
      have all3 : ∀ v ∈ A1 ++ A2, ∀ G : Hp, OkT G v := fun v h => (List.mem_append.mp h).elim (all1 v) (all2 v)
      have len3 : (A1 ++ A2).length = 13 := by rw [List.length_append, len1, len2]
      generalize A1 ++ A2 = A3 at S3 f3 S13 all3 len3 ⊢
      clear all1 all2 len1 len2 S1 S2 S3 f1 f2
      generalize upd G2 L3 _ = G3 at f3 S13 ⊢
      clear n3
      clear G2 G1
      refine ⟨_, rfl, sz (by simp), fun L4 n4 => ?_⟩
      obtain ⟨A4, eA4⟩ : ∃ A4 : List V, A4 = [V.str (Str.ofString "+5"), .str (Str.ofString "1_0"), .str (Str.ofString "0-1@+0:-/0"), .str (Str.ofString "0-1_0@0:r/0"), .str (Str.ofString "0 -1@0:-/0")] := ⟨_, rfl⟩
      have all4 : ∀ v ∈ A4, ∀ G : Hp, OkT G v := by
        rw [eA4]
        exact lcons (fun _ => okt_lit) (lcons (fun _ => okt_lit) (lcons (fun _ => okt_lit) (lcons (fun _ => okt_lit) (lcons (fun _ => okt_lit) lnil))))
      have len4 : A4.length = 5 := by rw [eA4]; rfl
      have S4 := same_new (o := .lst A4) n4
      have f4 : (upd G3 L4 (.lst A4)) L4 = some (.lst A4) := upd_same
      rw [eA4] at S4 f4
      generalize upd G3 L4 _ = G4 at S4 f4 ⊢
      rw [← eA4] at f4
      clear eA4 n4
      refine ⟨L3, L4, A3, A4, rfl, rfl, S4 _ _ f3, f4, by rw [len3, len4, sizeLine_eq]; decide, fun L5 n5 => ?_⟩
      have S5 := same_new (o := .lst (A3 ++ A4)) n5
      have f5 : (upd G4 L5 (.lst (A3 ++ A4))) L5 = some (.lst (A3 ++ A4)) := upd_same
      have S15 := S13.trans (S4.trans S5)
      have all5 : ∀ v ∈ A3 ++ A4, ∀ G : Hp, OkT G v := fun v h => (List.mem_append.mp h).elim (all3 v) (all4 v)
      generalize A3 ++ A4 = A5 at S5 f5 S15 all5 ⊢
      clear all3 all4 len3 len4 S4 S5 f3 f4
      generalize upd G4 L5 _ = G5 at f5 S15 ⊢
      clear n5
      have SG5 := SG.trans S15
      clear S15 S13
      refine ⟨L5, rfl, ⟨_, .of f5⟩, for_list (K := K) (a := L5) (xs := A5) (fun j σ H' => ∃ v7 v8, σ = [some (.ref a), some (.int (i : Int)), some (.ref p), some (.int b), v4, v5, v6, v7, v8, some (.ref L3)] ∧ Same G5 H') ⟨_, _, rfl, Same.refl _⟩ (fun j σ H' _ ⟨_, _, _, sm⟩ => .of (sm _ _ f5)) ?_ ?_⟩
      · rintro j2 xx σ G6 hx2 ⟨v7, v8, rfl, sm⟩
        have okx := all5 xx (List.mem_of_getElem? hx2) G6
        obtain ⟨d, hd, hs⟩ := okx
        refine ⟨_, rfl, xx, d, rfl, hd, hs, fun s' m' b' r1 K1 e h u1 n1 h1 => ?_, fun no K1 u1 => ?_⟩
        · obtain ⟨D, dpD, ff⟩ : ∃ D : PyData, (∀ (H : Hp) (q : Addr), H q = some (.tup [.bl m', .int b']) → Dp K H (.ref q) D) ∧ D.showable = true ∧ D.hasDict = false ∧ D.depth ≤ 50 ∧ D.shown.length ≤ sizeLine := ⟨wD m' b', fun H q h => wD_dp h, (wD_nice h.w45).ff (by decide)⟩
          refine ⟨_, rfl, xx, d, rfl, hd.same u1, hs, fun s'' m2 b2 r2 K2 e2 h2 u2 n2 g2 => ?_, fun no => absurd h (no _ _ _ e)⟩
          have es : s'' = s' := by rw [e] at e2; cases e2; rfl
          subst es
          obtain ⟨em, eb⟩ := h2.one h
          subst em eb
          refine ⟨.ref r2, D, rfl, dpD _ _ g2, ff.1, ff.2.1, ff.2.2.1, ff.2.2.2, ?_⟩
          refine ⟨_, rfl, rfl, _, rfl, ifd (fun c => nomatch c) (fun _ => ?_)⟩
          refine ⟨_, rfl, .ref r1, D, rfl, dpD _ _ (u2 _ _ h1), ff.1, ff.2.1, ff.2.2.1, ff.2.2.2, ?_⟩
          refine ⟨rfl, _, rfl, ifnd (fun c => absurd rfl c) (fun _ => ?_)⟩
          exact ⟨_, _, rfl, sm.trans (u1.trans u2)⟩
        · obtain ⟨D, dpD, ff⟩ : ∃ D : PyData, (∀ (H : Hp) (q : Addr), H q = some (.lst [.str (Str.ofString "none"), .int 0]) → Dp K H (.ref q) D) ∧ D.showable = true ∧ D.hasDict = false ∧ D.depth ≤ 50 ∧ D.shown.length ≤ sizeLine := ⟨NL, fun H q h => NL_dp h, NL_nice.ff (by decide)⟩
          refine ⟨_, rfl, xx, d, rfl, hd.same u1, hs, fun s'' m2 b2 r2 K2 e2 h2 u2 n2 g2 => absurd h2 (no _ _ _ e2), fun no r2 K2 u2 n2 g2 => ?_⟩
          refine ⟨.ref r2, D, rfl, dpD _ _ g2, ff.1, ff.2.1, ff.2.2.1, ff.2.2.2, ?_⟩
          refine ⟨_, rfl, rfl, _, rfl, ifd (fun _ => ?_) (fun c => absurd rfl c)⟩
          refine ⟨sz (by simp), fun L9 n9 => ?_⟩
          refine ⟨.ref L9, D, rfl, dpD _ _ upd_same, ff.1, ff.2.1, ff.2.2.1, ff.2.2.2, ?_⟩
          refine ⟨rfl, _, rfl, ifnd (fun c => absurd rfl c) (fun _ => ?_)⟩
          exact ⟨_, _, rfl, sm.trans ((u1.trans u2).trans (same_new (o := .lst [.str (Str.ofString "none"), .int 0]) n9))⟩
      · rintro σ G6 ⟨v7, v8, rfl, sm⟩
        exact ⟨_, _, _, _, _, _, _, _, _, rfl, SG5.trans sm⟩
  · rintro σ H1 ⟨v1, v2, v3, v4, v5, v6, v7, v8, v9, rfl, s3⟩
    refine ⟨rfl, .str TXT0, .str TXT0, rfl, .str _, fun s' e => by cases e; decide +kernel, fun s' m b q1 H2 e h s1 n1 h1 => ?_, fun no => absurd rt0 (no _ _ _ rfl)⟩
    cases e
    obtain ⟨em, eb⟩ := RT2.one h rt0
    subst em eb
    clear h
    refine ⟨sz (by simp), fun p hp => ⟨.ref p, .bl true, rfl, .inl ⟨p, _, rfl, upd_same, lcons (.int _) (lcons (.int _) (lcons (.int _) (lcons (.str _) (lcons (.int _) lnil)))), fun lo hi at' r kd ex hf sN q2 K3 hs sm hn hq => ?_, fun nf => absurd f50 nf⟩⟩⟩
    injection ex with x1 ex
    injection ex with x2 ex
    injection ex with x3 ex
    injection ex with x4 ex
    injection ex with x5 ex
    cases x1; cases x2; cases x3; cases x4; cases x5
    have es : 0 = sN := W0.ex.1.uniq hs
    subst es
    have h2 : K3 q1 = some (.tup [.bl true, .int B0]) := sm _ _ (same_new hp _ _ h1)
    have hq' : K3 q2 = some (.tup [.bl true, .int B0]) := hq
    refine ⟨_, _, wD_dp h2, wD_dp hq', wD_sh .., wD_sh .., _, rfl, ifbT (by rw [wD_eqv]; simp) ?_⟩
    refine ⟨sz (by simp), fun p2 hp2 => ⟨rfl, p2, false, 7, rfl, upd_same, ⟨by decide, by decide⟩, (fun z => nomatch z), fun z K4 s4 wt => ?_⟩⟩
    rw [wt7 wt]
    exact ⟨rfl, q _⟩
end
theorem all_mk {l : PySem.W.OpenLaw} {w : World} {K : PySem.W.Frag} {h : Heap} {mg : Str → Option Value} {fa f0 f1 f2 f3 f4 f5 f6 f7 f8 f9 f10 f11 f12 f13 f14 f15 f16 f17 f18 f19 f20 f21 f22 f23 f24 f25 f26 f27 f28 f29 f30 f31 f32 f33 f34 f35 f36 f37 f38 : Addr} (X : K.In h) (G : h.Ns mainGlobals mg) (hfa : mg "law" = some (.ref fa))
    {od0 an0 od1 an1 od2 an2 od3 an3 od4 an4 od5 an5 od6 an6 od7 an7 od8 an8 od9 an9 od10 an10 od11 an11 od12 an12 od13 an13 od14 an14 od15 an15 od16 an16 od17 an17 od18 an18 od19 an19 od20 an20 od21 an21 od22 an22 od23 an23 od24 an24 od25 an25 od26 an26 od27 an27 od28 an28 od29 an29 od30 an30 od31 an31 od32 an32 od33 an33 od34 an34 od35 an35 od36 an36 od37 an37 od38 an38 : Option Addr} {sl0 sl1 sl2 sl3 sl4 sl5 sl6 sl7 sl8 sl9 sl10 sl11 sl12 sl13 sl14 sl15 sl16 sl17 sl18 sl19 sl20 sl21 sl22 sl23 sl24 sl25 sl26 sl27 sl28 sl29 sl30 sl31 sl32 sl33 sl34 sl35 sl36 sl37 sl38 : Array (Option Value)} {oc0 kV0 dc0 pm0 cd0 ct0 oc1 kV1 dc1 pm1 cd1 ct1 oc2 kV2 dc2 pm2 cd2 ct2 oc3 kV3 dc3 pm3 cd3 ct3 oc4 kV4 dc4 pm4 cd4 ct4 oc5 kV5 dc5 pm5 cd5 ct5 oc6 kV6 dc6 pm6 cd6 ct6 oc7 kV7 dc7 pm7 cd7 ct7 oc8 kV8 dc8 pm8 cd8 ct8 oc9 kV9 dc9 pm9 cd9 ct9 oc10 kV10 dc10 pm10 cd10 ct10 oc11 kV11 dc11 pm11 cd11 ct11 oc12 kV12 dc12 pm12 cd12 ct12 oc13 kV13 dc13 pm13 cd13 ct13 oc14 kV14 dc14 pm14 cd14 ct14 oc15 kV15 dc15 pm15 cd15 ct15 oc16 kV16 dc16 pm16 cd16 ct16 oc17 kV17 dc17 pm17 cd17 ct17 oc18 dc18 pm18 cd18 ct18 oc19 kV19 dc19 pm19 cd19 ct19 oc20 kV20 dc20 pm20 cd20 ct20 oc21 kV21 dc21 pm21 cd21 ct21 oc22 kV22 dc22 pm22 cd22 ct22 oc23 kV23 dc23 pm23 cd23 ct23 oc24 kV24 dc24 pm24 cd24 ct24 oc25 kV25 dc25 pm25 cd25 ct25 oc26 kV26 dc26 pm26 cd26 ct26 oc27 kV27 dc27 pm27 cd27 ct27 oc28 kV28 dc28 pm28 cd28 ct28 oc29 kV29 dc29 pm29 cd29 ct29 oc30 kV30 dc30 pm30 cd30 ct30 oc31 kV31 dc31 pm31 cd31 ct31 oc32 kV32 dc32 pm32 cd32 ct32 oc33 kV33 dc33 pm33 cd33 ct33 oc34 kV34 dc34 pm34 cd34 ct34 oc35 kV35 dc35 pm35 cd35 ct35 oc36 kV36 dc36 pm36 cd36 ct36 oc37 kV37 dc37 pm37 cd37 ct37 oc38 kV38 dc38 pm38 cd38 ct38 : Value}
    (a0 : PySem.W.nsIn K mainGlobals "whole_in" = some (some (.ref f0))) (l0 : K.lookup f0 = some ⟨oc0, od0, .func (PySem.W.fnOf "whole_in" "whole_in" (defArgs s_whole_in) (defBody s_whole_in) (defScope s_whole_in) .none kV0 dc0 pm0 an0 cd0 ct0), sl0⟩) (c0 : PySem.W.codeIn K cd0 "whole_in" = true) (k0 : PySem.W.keepIn K (.ref f0) = true)
    (a1 : PySem.W.nsIn K mainGlobals "is_whole" = some (some (.ref f1))) (l1 : K.lookup f1 = some ⟨oc1, od1, .func (PySem.W.fnOf "is_whole" "is_whole" (defArgs s_is_whole) (defBody s_is_whole) (defScope s_is_whole) .none kV1 dc1 pm1 an1 cd1 ct1), sl1⟩) (c1 : PySem.W.codeIn K cd1 "is_whole" = true) (k1 : PySem.W.keepIn K (.ref f1) = true)
    (a2 : PySem.W.nsIn K mainGlobals "are_bounds" = some (some (.ref f2))) (l2 : K.lookup f2 = some ⟨oc2, od2, .func (PySem.W.fnOf "are_bounds" "are_bounds" (defArgs s_are_bounds) (defBody s_are_bounds) (defScope s_are_bounds) .none kV2 dc2 pm2 an2 cd2 ct2), sl2⟩) (c2 : PySem.W.codeIn K cd2 "are_bounds" = true) (k2 : PySem.W.keepIn K (.ref f2) = true)
    (a3 : PySem.W.nsIn K mainGlobals "look_at_bounds" = some (some (.ref f3))) (l3 : K.lookup f3 = some ⟨oc3, od3, .func (PySem.W.fnOf "look_at_bounds" "look_at_bounds" (defArgs s_look_at_bounds) (defBody s_look_at_bounds) (defScope s_look_at_bounds) .none kV3 dc3 pm3 an3 cd3 ct3), sl3⟩) (c3 : PySem.W.codeIn K cd3 "look_at_bounds" = true) (k3 : PySem.W.keepIn K (.ref f3) = true)
    (a4 : PySem.W.nsIn K mainGlobals "_steps_over" = some (some (.ref f4))) (l4 : K.lookup f4 = some ⟨oc4, od4, .func (PySem.W.fnOf "_steps_over" "_steps_over" (defArgs s__steps_over) (defBody s__steps_over) (defScope s__steps_over) .none kV4 dc4 pm4 an4 cd4 ct4), sl4⟩) (c4 : PySem.W.codeIn K cd4 "_steps_over" = true) (k4 : PySem.W.keepIn K (.ref f4) = true)
    (a5 : PySem.W.nsIn K mainGlobals "in_bits" = some (some (.ref f5))) (l5 : K.lookup f5 = some ⟨oc5, od5, .func (PySem.W.fnOf "in_bits" "in_bits" (defArgs s_in_bits) (defBody s_in_bits) (defScope s_in_bits) .none kV5 dc5 pm5 an5 cd5 ct5), sl5⟩) (c5 : PySem.W.codeIn K cd5 "in_bits" = true) (k5 : PySem.W.keepIn K (.ref f5) = true)
    (a6 : PySem.W.nsIn K mainGlobals "least_bounds" = some (some (.ref f6))) (l6 : K.lookup f6 = some ⟨oc6, od6, .func (PySem.W.fnOf "least_bounds" "least_bounds" (defArgs s_least_bounds) (defBody s_least_bounds) (defScope s_least_bounds) .none kV6 dc6 pm6 an6 cd6 ct6), sl6⟩) (c6 : PySem.W.codeIn K cd6 "least_bounds" = true) (k6 : PySem.W.keepIn K (.ref f6) = true)
    (a7 : PySem.W.nsIn K mainGlobals "is_exact" = some (some (.ref f7))) (l7 : K.lookup f7 = some ⟨oc7, od7, .func (PySem.W.fnOf "is_exact" "is_exact" (defArgs s_is_exact) (defBody s_is_exact) (defScope s_is_exact) .none kV7 dc7 pm7 an7 cd7 ct7), sl7⟩) (c7 : PySem.W.codeIn K cd7 "is_exact" = true) (k7 : PySem.W.keepIn K (.ref f7) = true)
    (a8 : PySem.W.nsIn K mainGlobals "_has_some" = some (some (.ref f8))) (l8 : K.lookup f8 = some ⟨oc8, od8, .func (PySem.W.fnOf "_has_some" "_has_some" (defArgs s__has_some) (defBody s__has_some) (defScope s__has_some) .none kV8 dc8 pm8 an8 cd8 ct8), sl8⟩) (c8 : PySem.W.codeIn K cd8 "_has_some" = true) (k8 : PySem.W.keepIn K (.ref f8) = true)
    (a9 : PySem.W.nsIn K mainGlobals "_lead_one_way" = some (some (.ref f9))) (l9 : K.lookup f9 = some ⟨oc9, od9, .func (PySem.W.fnOf "_lead_one_way" "_lead_one_way" (defArgs s__lead_one_way) (defBody s__lead_one_way) (defScope s__lead_one_way) .none kV9 dc9 pm9 an9 cd9 ct9), sl9⟩) (c9 : PySem.W.codeIn K cd9 "_lead_one_way" = true) (k9 : PySem.W.keepIn K (.ref f9) = true)
    (a10 : PySem.W.nsIn K mainGlobals "bits_of_rights" = some (some (.ref f10))) (l10 : K.lookup f10 = some ⟨oc10, od10, .func (PySem.W.fnOf "bits_of_rights" "bits_of_rights" (defArgs s_bits_of_rights) (defBody s_bits_of_rights) (defScope s_bits_of_rights) .none kV10 dc10 pm10 an10 cd10 ct10), sl10⟩) (c10 : PySem.W.codeIn K cd10 "bits_of_rights" = true) (k10 : PySem.W.keepIn K (.ref f10) = true)
    (a11 : PySem.W.nsIn K mainGlobals "field" = some (some (.ref f11))) (l11 : K.lookup f11 = some ⟨oc11, od11, .func (PySem.W.fnOf "field" "field" (defArgs s_field) (defBody s_field) (defScope s_field) .none kV11 dc11 pm11 an11 cd11 ct11), sl11⟩) (c11 : PySem.W.codeIn K cd11 "field" = true) (k11 : PySem.W.keepIn K (.ref f11) = true)
    (a12 : PySem.W.nsIn K mainGlobals "rights_in" = some (some (.ref f12))) (l12 : K.lookup f12 = some ⟨oc12, od12, .func (PySem.W.fnOf "rights_in" "rights_in" (defArgs s_rights_in) (defBody s_rights_in) (defScope s_rights_in) .none kV12 dc12 pm12 an12 cd12 ct12), sl12⟩) (c12 : PySem.W.codeIn K cd12 "rights_in" = true) (k12 : PySem.W.keepIn K (.ref f12) = true)
    (a13 : PySem.W.nsIn K mainGlobals "_tell" = some (some (.ref f13))) (l13 : K.lookup f13 = some ⟨oc13, od13, .func (PySem.W.fnOf "_tell" "_tell" (defArgs s__tell) (defBody s__tell) (defScope s__tell) .none kV13 dc13 pm13 an13 cd13 ct13), sl13⟩) (c13 : PySem.W.codeIn K cd13 "_tell" = true) (k13 : PySem.W.keepIn K (.ref f13) = true)
    (a14 : PySem.W.nsIn K mainGlobals "bounds_in" = some (some (.ref f14))) (l14 : K.lookup f14 = some ⟨oc14, od14, .func (PySem.W.fnOf "bounds_in" "bounds_in" (defArgs s_bounds_in) (defBody s_bounds_in) (defScope s_bounds_in) .none kV14 dc14 pm14 an14 cd14 ct14), sl14⟩) (c14 : PySem.W.codeIn K cd14 "bounds_in" = true) (k14 : PySem.W.keepIn K (.ref f14) = true)
    (a15 : PySem.W.nsIn K mainGlobals "fields_of" = some (some (.ref f15))) (l15 : K.lookup f15 = some ⟨oc15, od15, .func (PySem.W.fnOf "fields_of" "fields_of" (defArgs s_fields_of) (defBody s_fields_of) (defScope s_fields_of) .none kV15 dc15 pm15 an15 cd15 ct15), sl15⟩) (c15 : PySem.W.codeIn K cd15 "fields_of" = true) (k15 : PySem.W.keepIn K (.ref f15) = true)
    (a16 : PySem.W.nsIn K mainGlobals "is_rights" = some (some (.ref f16))) (l16 : K.lookup f16 = some ⟨oc16, od16, .func (PySem.W.fnOf "is_rights" "is_rights" (defArgs s_is_rights) (defBody s_is_rights) (defScope s_is_rights) .none kV16 dc16 pm16 an16 cd16 ct16), sl16⟩) (c16 : PySem.W.codeIn K cd16 "is_rights" = true) (k16 : PySem.W.keepIn K (.ref f16) = true)
    (a17 : PySem.W.nsIn K mainGlobals "_are_fields" = some (some (.ref f17))) (l17 : K.lookup f17 = some ⟨oc17, od17, .func (PySem.W.fnOf "_are_fields" "_are_fields" (defArgs s__are_fields) (defBody s__are_fields) (defScope s__are_fields) .none kV17 dc17 pm17 an17 cd17 ct17), sl17⟩) (c17 : PySem.W.codeIn K cd17 "_are_fields" = true) (k17 : PySem.W.keepIn K (.ref f17) = true)
    {D18 : Addr} (a18 : PySem.W.nsIn K mainGlobals "word_of" = some (some (.ref f18))) (l18 : K.lookup f18 = some ⟨oc18, od18, .func (PySem.W.fnOf "word_of" "word_of" (defArgs s_word_of) (defBody s_word_of) (defScope s_word_of) .none (.ref D18) dc18 pm18 an18 cd18 ct18), sl18⟩) (c18 : PySem.W.codeIn K cd18 "word_of" = true) (k18 : PySem.W.keepIn K (.ref f18) = true)
    (d18_marked : PySem.W.nsIn K D18 "marked" = some (some (.bool true)))
    (a19 : PySem.W.nsIn K mainGlobals "is_word" = some (some (.ref f19))) (l19 : K.lookup f19 = some ⟨oc19, od19, .func (PySem.W.fnOf "is_word" "is_word" (defArgs s_is_word) (defBody s_is_word) (defScope s_is_word) .none kV19 dc19 pm19 an19 cd19 ct19), sl19⟩) (c19 : PySem.W.codeIn K cd19 "is_word" = true) (k19 : PySem.W.keepIn K (.ref f19) = true)
    (a20 : PySem.W.nsIn K mainGlobals "_may_be_marked" = some (some (.ref f20))) (l20 : K.lookup f20 = some ⟨oc20, od20, .func (PySem.W.fnOf "_may_be_marked" "_may_be_marked" (defArgs s__may_be_marked) (defBody s__may_be_marked) (defScope s__may_be_marked) .none kV20 dc20 pm20 an20 cd20 ct20), sl20⟩) (c20 : PySem.W.codeIn K cd20 "_may_be_marked" = true) (k20 : PySem.W.keepIn K (.ref f20) = true)
    (a21 : PySem.W.nsIn K mainGlobals "is_lawful" = some (some (.ref f21))) (l21 : K.lookup f21 = some ⟨oc21, od21, .func (PySem.W.fnOf "is_lawful" "is_lawful" (defArgs s_is_lawful) (defBody s_is_lawful) (defScope s_is_lawful) .none kV21 dc21 pm21 an21 cd21 ct21), sl21⟩) (c21 : PySem.W.codeIn K cd21 "is_lawful" = true) (k21 : PySem.W.keepIn K (.ref f21) = true)
    (a22 : PySem.W.nsIn K mainGlobals "shown_word" = some (some (.ref f22))) (l22 : K.lookup f22 = some ⟨oc22, od22, .func (PySem.W.fnOf "shown_word" "shown_word" (defArgs s_shown_word) (defBody s_shown_word) (defScope s_shown_word) .none kV22 dc22 pm22 an22 cd22 ct22), sl22⟩) (c22 : PySem.W.codeIn K cd22 "shown_word" = true) (k22 : PySem.W.keepIn K (.ref f22) = true)
    (a23 : PySem.W.nsIn K mainGlobals "_marked_word_in" = some (some (.ref f23))) (l23 : K.lookup f23 = some ⟨oc23, od23, .func (PySem.W.fnOf "_marked_word_in" "_marked_word_in" (defArgs s__marked_word_in) (defBody s__marked_word_in) (defScope s__marked_word_in) .none kV23 dc23 pm23 an23 cd23 ct23), sl23⟩) (c23 : PySem.W.codeIn K cd23 "_marked_word_in" = true) (k23 : PySem.W.keepIn K (.ref f23) = true)
    (a24 : PySem.W.nsIn K mainGlobals "read_word" = some (some (.ref f24))) (l24 : K.lookup f24 = some ⟨oc24, od24, .func (PySem.W.fnOf "read_word" "read_word" (defArgs s_read_word) (defBody s_read_word) (defScope s_read_word) .none kV24 dc24 pm24 an24 cd24 ct24), sl24⟩) (c24 : PySem.W.codeIn K cd24 "read_word" = true) (k24 : PySem.W.keepIn K (.ref f24) = true)
    (a25 : PySem.W.nsIn K mainGlobals "_law_take" = some (some (.ref f25))) (l25 : K.lookup f25 = some ⟨oc25, od25, .func (PySem.W.fnOf "_law_take" "_law_take" (defArgs s__law_take) (defBody s__law_take) (defScope s__law_take) .none kV25 dc25 pm25 an25 cd25 ct25), sl25⟩) (c25 : PySem.W.codeIn K cd25 "_law_take" = true) (k25 : PySem.W.keepIn K (.ref f25) = true)
    (a26 : PySem.W.nsIn K mainGlobals "_law_pool" = some (some (.ref f26))) (l26 : K.lookup f26 = some ⟨oc26, od26, .func (PySem.W.fnOf "_law_pool" "_law_pool" (defArgs s__law_pool) (defBody s__law_pool) (defScope s__law_pool) .none kV26 dc26 pm26 an26 cd26 ct26), sl26⟩) (c26 : PySem.W.codeIn K cd26 "_law_pool" = true) (k26 : PySem.W.keepIn K (.ref f26) = true)
    (a27 : PySem.W.nsIn K mainGlobals "_law_bits" = some (some (.ref f27))) (l27 : K.lookup f27 = some ⟨oc27, od27, .func (PySem.W.fnOf "_law_bits" "_law_bits" (defArgs s__law_bits) (defBody s__law_bits) (defScope s__law_bits) .none kV27 dc27 pm27 an27 cd27 ct27), sl27⟩) (c27 : PySem.W.codeIn K cd27 "_law_bits" = true) (k27 : PySem.W.keepIn K (.ref f27) = true)
    (a28 : PySem.W.nsIn K mainGlobals "_law_mask" = some (some (.ref f28))) (l28 : K.lookup f28 = some ⟨oc28, od28, .func (PySem.W.fnOf "_law_mask" "_law_mask" (defArgs s__law_mask) (defBody s__law_mask) (defScope s__law_mask) .none kV28 dc28 pm28 an28 cd28 ct28), sl28⟩) (c28 : PySem.W.codeIn K cd28 "_law_mask" = true) (k28 : PySem.W.keepIn K (.ref f28) = true)
    (a29 : PySem.W.nsIn K mainGlobals "_law_drawn" = some (some (.ref f29))) (l29 : K.lookup f29 = some ⟨oc29, od29, .func (PySem.W.fnOf "_law_drawn" "_law_drawn" (defArgs s__law_drawn) (defBody s__law_drawn) (defScope s__law_drawn) .none kV29 dc29 pm29 an29 cd29 ct29), sl29⟩) (c29 : PySem.W.codeIn K cd29 "_law_drawn" = true) (k29 : PySem.W.keepIn K (.ref f29) = true)
    (a30 : PySem.W.nsIn K mainGlobals "_law_fields" = some (some (.ref f30))) (l30 : K.lookup f30 = some ⟨oc30, od30, .func (PySem.W.fnOf "_law_fields" "_law_fields" (defArgs s__law_fields) (defBody s__law_fields) (defScope s__law_fields) .none kV30 dc30 pm30 an30 cd30 ct30), sl30⟩) (c30 : PySem.W.codeIn K cd30 "_law_fields" = true) (k30 : PySem.W.keepIn K (.ref f30) = true)
    (a31 : PySem.W.nsIn K mainGlobals "_law_good" = some (some (.ref f31))) (l31 : K.lookup f31 = some ⟨oc31, od31, .func (PySem.W.fnOf "_law_good" "_law_good" (defArgs s__law_good) (defBody s__law_good) (defScope s__law_good) .none kV31 dc31 pm31 an31 cd31 ct31), sl31⟩) (c31 : PySem.W.codeIn K cd31 "_law_good" = true) (k31 : PySem.W.keepIn K (.ref f31) = true)
    (a32 : PySem.W.nsIn K mainGlobals "_law_text" = some (some (.ref f32))) (l32 : K.lookup f32 = some ⟨oc32, od32, .func (PySem.W.fnOf "_law_text" "_law_text" (defArgs s__law_text) (defBody s__law_text) (defScope s__law_text) .none kV32 dc32 pm32 an32 cd32 ct32), sl32⟩) (c32 : PySem.W.codeIn K cd32 "_law_text" = true) (k32 : PySem.W.keepIn K (.ref f32) = true)
    (a33 : PySem.W.nsIn K mainGlobals "_law_figures" = some (some (.ref f33))) (l33 : K.lookup f33 = some ⟨oc33, od33, .func (PySem.W.fnOf "_law_figures" "_law_figures" (defArgs s__law_figures) (defBody s__law_figures) (defScope s__law_figures) .none kV33 dc33 pm33 an33 cd33 ct33), sl33⟩) (c33 : PySem.W.codeIn K cd33 "_law_figures" = true) (k33 : PySem.W.keepIn K (.ref f33) = true)
    (a34 : PySem.W.nsIn K mainGlobals "_law_exact" = some (some (.ref f34))) (l34 : K.lookup f34 = some ⟨oc34, od34, .func (PySem.W.fnOf "_law_exact" "_law_exact" (defArgs s__law_exact) (defBody s__law_exact) (defScope s__law_exact) .none kV34 dc34 pm34 an34 cd34 ct34), sl34⟩) (c34 : PySem.W.codeIn K cd34 "_law_exact" = true) (k34 : PySem.W.keepIn K (.ref f34) = true)
    (a35 : PySem.W.nsIn K mainGlobals "_law_due" = some (some (.ref f35))) (l35 : K.lookup f35 = some ⟨oc35, od35, .func (PySem.W.fnOf "_law_due" "_law_due" (defArgs s__law_due) (defBody s__law_due) (defScope s__law_due) .none kV35 dc35 pm35 an35 cd35 ct35), sl35⟩) (c35 : PySem.W.codeIn K cd35 "_law_due" = true) (k35 : PySem.W.keepIn K (.ref f35) = true)
    (a36 : PySem.W.nsIn K mainGlobals "_law_told" = some (some (.ref f36))) (l36 : K.lookup f36 = some ⟨oc36, od36, .func (PySem.W.fnOf "_law_told" "_law_told" (defArgs s__law_told) (defBody s__law_told) (defScope s__law_told) .none kV36 dc36 pm36 an36 cd36 ct36), sl36⟩) (c36 : PySem.W.codeIn K cd36 "_law_told" = true) (k36 : PySem.W.keepIn K (.ref f36) = true)
    (a37 : PySem.W.nsIn K mainGlobals "_law_bent" = some (some (.ref f37))) (l37 : K.lookup f37 = some ⟨oc37, od37, .func (PySem.W.fnOf "_law_bent" "_law_bent" (defArgs s__law_bent) (defBody s__law_bent) (defScope s__law_bent) .none kV37 dc37 pm37 an37 cd37 ct37), sl37⟩) (c37 : PySem.W.codeIn K cd37 "_law_bent" = true) (k37 : PySem.W.keepIn K (.ref f37) = true)
    (a38 : PySem.W.nsIn K mainGlobals "law" = some (some (.ref f38))) (l38 : K.lookup f38 = some ⟨oc38, od38, .func (PySem.W.fnOf "law" "law" (defArgs s_law) (defBody s_law) (defScope s_law) .none kV38 dc38 pm38 an38 cd38 ct38), sl38⟩) (c38 : PySem.W.codeIn K cd38 "law" = true) (k38 : PySem.W.keepIn K (.ref f38) = true)
    (z_ValueError : PySem.W.nsIn K mainGlobals "ValueError" = some none)
    (z_abs : PySem.W.nsIn K mainGlobals "abs" = some none)
    (z_any : PySem.W.nsIn K mainGlobals "any" = some none)
    (z_bool : PySem.W.nsIn K mainGlobals "bool" = some none)
    (z_enumerate : PySem.W.nsIn K mainGlobals "enumerate" = some none)
    (z_int : PySem.W.nsIn K mainGlobals "int" = some none)
    (z_isinstance : PySem.W.nsIn K mainGlobals "isinstance" = some none)
    (z_len : PySem.W.nsIn K mainGlobals "len" = some none)
    (z_list : PySem.W.nsIn K mainGlobals "list" = some none)
    (z_max : PySem.W.nsIn K mainGlobals "max" = some none)
    (z_min : PySem.W.nsIn K mainGlobals "min" = some none)
    (z_range : PySem.W.nsIn K mainGlobals "range" = some none)
    (z_repr : PySem.W.nsIn K mainGlobals "repr" = some none)
    (z_str : PySem.W.nsIn K mainGlobals "str" = some none)
    (z_sum : PySem.W.nsIn K mainGlobals "sum" = some none)
    (z_tuple : PySem.W.nsIn K mainGlobals "tuple" = some none)
    (z_zip : PySem.W.nsIn K mainGlobals "zip" = some none)
    {p_AT : Addr} {dd_AT : Option Addr} {n_AT : Nat} {sl_AT : Array (Option Value)} {t_AT_0 t_AT_1 : Tok} (v_AT : PySem.W.nsIn K mainGlobals "AT" = some (some (.ref p_AT))) (w_AT : K.lookup p_AT = some ⟨.type "tuple", dd_AT, .seq #[(Value.int 0 t_AT_0), (Value.int 12 t_AT_1)] n_AT, sl_AT⟩)
    {t_CELLS : Tok} (v_CELLS : PySem.W.nsIn K mainGlobals "CELLS" = some (some (.int 4096 t_CELLS)))
    {p_COUNT_LESS_ONE : Addr} {dd_COUNT_LESS_ONE : Option Addr} {n_COUNT_LESS_ONE : Nat} {sl_COUNT_LESS_ONE : Array (Option Value)} {t_COUNT_LESS_ONE_0 t_COUNT_LESS_ONE_1 : Tok} (v_COUNT_LESS_ONE : PySem.W.nsIn K mainGlobals "COUNT_LESS_ONE" = some (some (.ref p_COUNT_LESS_ONE))) (w_COUNT_LESS_ONE : K.lookup p_COUNT_LESS_ONE = some ⟨.type "tuple", dd_COUNT_LESS_ONE, .seq #[(Value.int 24 t_COUNT_LESS_ONE_0), (Value.int 4 t_COUNT_LESS_ONE_1)] n_COUNT_LESS_ONE, sl_COUNT_LESS_ONE⟩)
    {p_FIRST : Addr} {dd_FIRST : Option Addr} {n_FIRST : Nat} {sl_FIRST : Array (Option Value)} {t_FIRST_0 t_FIRST_1 : Tok} (v_FIRST : PySem.W.nsIn K mainGlobals "FIRST" = some (some (.ref p_FIRST))) (w_FIRST : K.lookup p_FIRST = some ⟨.type "tuple", dd_FIRST, .seq #[(Value.int 12 t_FIRST_0), (Value.int 12 t_FIRST_1)] n_FIRST, sl_FIRST⟩)
    {p_GROUPS : Addr} {dd_GROUPS : Option Addr} {n_GROUPS : Nat} {sl_GROUPS : Array (Option Value)} {t_GROUPS_0 t_GROUPS_1 t_GROUPS_2 : Tok} (v_GROUPS : PySem.W.nsIn K mainGlobals "GROUPS" = some (some (.ref p_GROUPS))) (w_GROUPS : K.lookup p_GROUPS = some ⟨.type "tuple", dd_GROUPS, .seq #[(Value.str (Str.ofString "rwlsn") t_GROUPS_0), (Value.str (Str.ofString "x") t_GROUPS_1), (Value.str (Str.ofString "co") t_GROUPS_2)] n_GROUPS, sl_GROUPS⟩)
    {p_KIND : Addr} {dd_KIND : Option Addr} {n_KIND : Nat} {sl_KIND : Array (Option Value)} {t_KIND_0 t_KIND_1 : Tok} (v_KIND : PySem.W.nsIn K mainGlobals "KIND" = some (some (.ref p_KIND))) (w_KIND : K.lookup p_KIND = some ⟨.type "tuple", dd_KIND, .seq #[(Value.int 41 t_KIND_0), (Value.int 4 t_KIND_1)] n_KIND, sl_KIND⟩)
    {t_LEAST_COUNT : Tok} (v_LEAST_COUNT : PySem.W.nsIn K mainGlobals "LEAST_COUNT" = some (some (.int 9 t_LEAST_COUNT)))
    {t_MOST_FIGURES : Tok} (v_MOST_FIGURES : PySem.W.nsIn K mainGlobals "MOST_FIGURES" = some (some (.int 30 t_MOST_FIGURES)))
    {t_RIGHTS : Tok} (v_RIGHTS : PySem.W.nsIn K mainGlobals "RIGHTS" = some (some (.str (Str.ofString "rwlsnfxco") t_RIGHTS)))
    {p_RIGHTS_BITS : Addr} {dd_RIGHTS_BITS : Option Addr} {n_RIGHTS_BITS : Nat} {sl_RIGHTS_BITS : Array (Option Value)} {t_RIGHTS_BITS_0 t_RIGHTS_BITS_1 : Tok} (v_RIGHTS_BITS : PySem.W.nsIn K mainGlobals "RIGHTS_BITS" = some (some (.ref p_RIGHTS_BITS))) (w_RIGHTS_BITS : K.lookup p_RIGHTS_BITS = some ⟨.type "tuple", dd_RIGHTS_BITS, .seq #[(Value.int 32 t_RIGHTS_BITS_0), (Value.int 9 t_RIGHTS_BITS_1)] n_RIGHTS_BITS, sl_RIGHTS_BITS⟩)
    {p_STEP : Addr} {dd_STEP : Option Addr} {n_STEP : Nat} {sl_STEP : Array (Option Value)} {t_STEP_0 t_STEP_1 : Tok} (v_STEP : PySem.W.nsIn K mainGlobals "STEP" = some (some (.ref p_STEP))) (w_STEP : K.lookup p_STEP = some ⟨.type "tuple", dd_STEP, .seq #[(Value.int 28 t_STEP_0), (Value.int 4 t_STEP_1)] n_STEP, sl_STEP⟩)
    {t_TOP_COUNT : Tok} (v_TOP_COUNT : PySem.W.nsIn K mainGlobals "TOP_COUNT" = some (some (.int 16 t_TOP_COUNT)))
    {t_TOP_KIND : Tok} (v_TOP_KIND : PySem.W.nsIn K mainGlobals "TOP_KIND" = some (some (.int 15 t_TOP_KIND)))
    {t_TOP_STEP : Tok} (v_TOP_STEP : PySem.W.nsIn K mainGlobals "TOP_STEP" = some (some (.int 8 t_TOP_STEP)))
    {t_WORTHS : Tok} (v_WORTHS : PySem.W.nsIn K mainGlobals "WORTHS" = some (some (.int 35184372088832 t_WORTHS)))
    {C_NoFields : Addr} (ac_NoFields : PySem.W.nsIn K mainGlobals "NoFields" = some (some (.ref C_NoFields)))
    {C_NoRows : Addr} (ac_NoRows : PySem.W.nsIn K mainGlobals "NoRows" = some (some (.ref C_NoRows)))
    {C_NoText : Addr} (ac_NoText : PySem.W.nsIn K mainGlobals "NoText" = some (some (.ref C_NoText)))
    {nm_NoFields q_NoFields : Str} {N_NoFields B_NoFields fi_NoFields : Addr} {bs_NoFields : List Value} {sn_NoFields : List Str} {sub_NoFields : List Value} {ab_NoFields : Bool} {col_NoFields : Option Bool} {dd_NoFields od_NoFields an_NoFields : Option Addr} {m0_NoFields m1_NoFields m2_NoFields m3_NoFields m5_NoFields : Option Value} {oc_NoFields kV_NoFields dc_NoFields pm_NoFields cd_NoFields ct_NoFields : Value} {osl_NoFields : Array (Option Value)}
    (xl_NoFields : K.lookup C_NoFields = some (excClassObj nm_NoFields q_NoFields C_NoFields N_NoFields bs_NoFields [.ref B_NoFields, .type "ValueError", .type "Exception", .type "BaseException", .type "object"] true sn_NoFields sub_NoFields ab_NoFields col_NoFields dd_NoFields m0_NoFields m1_NoFields m2_NoFields m3_NoFields m5_NoFields "ValueError.__new__"))
    (sa_NoFields : PySem.W.findIn K (.ref C_NoFields) "__setattr__" = some (some (.builtin "object.__setattr__")))
    (eb_NoFields : PySem.W.subIn K (.ref C_NoFields) (.type "BaseException") = some true)
    (ty_NoFields : PySem.W.typeIn K (.ref C_NoFields) = some (.type "type"))
    (kc_NoFields : PySem.W.keepIn K (.ref C_NoFields) = true)
    (no_NoFields : PySem.W.findIn K (.ref C_NoFields) "text" = some none)
    (in_NoFields : PySem.W.findIn K (.ref C_NoFields) "__init__" = some (some (.ref fi_NoFields))) (ti_NoFields : PySem.W.typeIn K (.ref fi_NoFields) = some (.type "function"))
    (li_NoFields : K.lookup fi_NoFields = some ⟨oc_NoFields, od_NoFields, .func (PySem.W.fnOf "__init__" "NoFields.__init__" (defArgs si_NoFields) (defBody si_NoFields) (defScope si_NoFields) .none kV_NoFields dc_NoFields pm_NoFields an_NoFields cd_NoFields ct_NoFields), osl_NoFields⟩) (ci_NoFields : PySem.W.codeIn K cd_NoFields "NoFields.__init__" = true) (ki_NoFields : PySem.W.keepIn K (.ref fi_NoFields) = true)
    {nm_NoText q_NoText : Str} {N_NoText B_NoText fi_NoText : Addr} {bs_NoText : List Value} {sn_NoText : List Str} {sub_NoText : List Value} {ab_NoText : Bool} {col_NoText : Option Bool} {dd_NoText od_NoText an_NoText : Option Addr} {m0_NoText m1_NoText m2_NoText m3_NoText m5_NoText : Option Value} {oc_NoText kV_NoText dc_NoText pm_NoText cd_NoText ct_NoText : Value} {osl_NoText : Array (Option Value)}
    (xl_NoText : K.lookup C_NoText = some (excClassObj nm_NoText q_NoText C_NoText N_NoText bs_NoText [.ref B_NoText, .type "ValueError", .type "Exception", .type "BaseException", .type "object"] true sn_NoText sub_NoText ab_NoText col_NoText dd_NoText m0_NoText m1_NoText m2_NoText m3_NoText m5_NoText "ValueError.__new__"))
    (sa_NoText : PySem.W.findIn K (.ref C_NoText) "__setattr__" = some (some (.builtin "object.__setattr__")))
    (eb_NoText : PySem.W.subIn K (.ref C_NoText) (.type "BaseException") = some true)
    (ty_NoText : PySem.W.typeIn K (.ref C_NoText) = some (.type "type"))
    (kc_NoText : PySem.W.keepIn K (.ref C_NoText) = true)
    (no_NoText : PySem.W.findIn K (.ref C_NoText) "number" = some none)
    (in_NoText : PySem.W.findIn K (.ref C_NoText) "__init__" = some (some (.ref fi_NoText))) (ti_NoText : PySem.W.typeIn K (.ref fi_NoText) = some (.type "function"))
    (li_NoText : K.lookup fi_NoText = some ⟨oc_NoText, od_NoText, .func (PySem.W.fnOf "__init__" "NoText.__init__" (defArgs si_NoText) (defBody si_NoText) (defScope si_NoText) .none kV_NoText dc_NoText pm_NoText an_NoText cd_NoText ct_NoText), osl_NoText⟩) (ci_NoText : PySem.W.codeIn K cd_NoText "NoText.__init__" = true) (ki_NoText : PySem.W.keepIn K (.ref fi_NoText) = true)
    (xb_NoFields_NoFields : PySem.W.subIn K (.ref C_NoFields) (.type "BaseException") = some true)
    (xh_NoFields_NoFields : PySem.W.hasDictIn K C_NoFields = true)
    (xt_NoFields_NoFields : PySem.W.typeIn K (.ref C_NoFields) = some (.type "type"))
    (xs_NoFields_NoFields : PySem.W.subIn K (.ref C_NoFields) (.ref C_NoFields) = some true)
    (xb_NoText_NoText : PySem.W.subIn K (.ref C_NoText) (.type "BaseException") = some true)
    (xh_NoText_NoText : PySem.W.hasDictIn K C_NoText = true)
    (xt_NoText_NoText : PySem.W.typeIn K (.ref C_NoText) = some (.type "type"))
    (xs_NoText_NoText : PySem.W.subIn K (.ref C_NoText) (.ref C_NoText) = some true)
    (ecg_NoText : PySem.W.findIn K (.ref C_NoText) "__getattribute__" = some (some (.builtin "BaseException.__getattribute__")))
    (eck_NoText : PySem.W.findIn K (.ref C_NoText) "__getattr__" = some none)
    (ecs_NoText : PySem.W.subIn K (.ref C_NoText) (.type "BaseException") = some true)
    (ecd_NoText : PySem.W.hasDictIn K C_NoText = true)
    (eca_NoText : PySem.W.findIn K (.ref C_NoText) "__class__" = some (some (.builtin "object.__class__")))
    (ecn_NoText : PySem.W.specialIn K (.builtin "object.__class__") "__get__" = some (some (.builtin "getset_descriptor.__get__")))
    (ect_NoText : PySem.W.takesIn K (.builtin "object.__class__") = some true)
    (ecm_NoText : PySem.W.mroIn K C_NoText (.type "object") = some true)
    (kt_NoText_NoRows : PySem.W.kitOne K (.ref C_NoText) (.ref C_NoRows) = some false)
    (kt_NoText_ValueError : PySem.W.kitOne K (.ref C_NoText) (.type "ValueError") = some true)
    (ef_NoText_number : PySem.W.findIn K (.ref C_NoText) "number" = some none)
    : ∀ (base : Heap) (H : Hp) (s : Shared) (a : Addr) (ns : List Int), K.In base → base.Ns mainGlobals mg → Env0 l.prog w K mg base callerA [] s H → SqL K H a (ns.map V.int) → ns.length ≤ 63 → codeAny (model l.prog w) callerA (.call (.ref fa) ⟨[.ref a], []⟩) (CR CX0 [] l.prog w H s (fun v _ => v = .bl true) fun _ _ _ => False) s := by
  have e := hfa.symm.trans (PySem.W.mg_of X G a38)
  cases e
  have F0 := fun_mk (st := s_whole_in) l0 c0 k0
  have F1 := fun_mk (st := s_is_whole) l1 c1 k1
  have F2 := fun_mk (st := s_are_bounds) l2 c2 k2
  have F3 := fun_mk (st := s_look_at_bounds) l3 c3 k3
  have F4 := fun_mk (st := s__steps_over) l4 c4 k4
  have F5 := fun_mk (st := s_in_bits) l5 c5 k5
  have F6 := fun_mk (st := s_least_bounds) l6 c6 k6
  have F7 := fun_mk (st := s_is_exact) l7 c7 k7
  have F8 := fun_mk (st := s__has_some) l8 c8 k8
  have F9 := fun_mk (st := s__lead_one_way) l9 c9 k9
  have F10 := fun_mk (st := s_bits_of_rights) l10 c10 k10
  have F11 := fun_mk (st := s_field) l11 c11 k11
  have F12 := fun_mk (st := s_rights_in) l12 c12 k12
  have F13 := fun_mk (st := s__tell) l13 c13 k13
  have F14 := fun_mk (st := s_bounds_in) l14 c14 k14
  have F15 := fun_mk (st := s_fields_of) l15 c15 k15
  have F16 := fun_mk (st := s_is_rights) l16 c16 k16
  have F17 := fun_mk (st := s__are_fields) l17 c17 k17
  have F18 := fun_mk (st := s_word_of) l18 c18 k18
  have F19 := fun_mk (st := s_is_word) l19 c19 k19
  have F20 := fun_mk (st := s__may_be_marked) l20 c20 k20
  have F21 := fun_mk (st := s_is_lawful) l21 c21 k21
  have F22 := fun_mk (st := s_shown_word) l22 c22 k22
  have F23 := fun_mk (st := s__marked_word_in) l23 c23 k23
  have F24 := fun_mk (st := s_read_word) l24 c24 k24
  have F25 := fun_mk (st := s__law_take) l25 c25 k25
  have F26 := fun_mk (st := s__law_pool) l26 c26 k26
  have F27 := fun_mk (st := s__law_bits) l27 c27 k27
  have F28 := fun_mk (st := s__law_mask) l28 c28 k28
  have F29 := fun_mk (st := s__law_drawn) l29 c29 k29
  have F30 := fun_mk (st := s__law_fields) l30 c30 k30
  have F31 := fun_mk (st := s__law_good) l31 c31 k31
  have F32 := fun_mk (st := s__law_text) l32 c32 k32
  have F33 := fun_mk (st := s__law_figures) l33 c33 k33
  have F34 := fun_mk (st := s__law_exact) l34 c34 k34
  have F35 := fun_mk (st := s__law_due) l35 c35 k35
  have F36 := fun_mk (st := s__law_told) l36 c36 k36
  have F37 := fun_mk (st := s__law_bent) l37 c37 k37
  have F38 := fun_mk (st := s_law) l38 c38 k38
  have T : Txt K w mg := ⟨PySem.W.mg_none_of X G z_ValueError, PySem.W.mg_none_of X G z_abs, PySem.W.mg_none_of X G z_any, PySem.W.mg_none_of X G z_bool, PySem.W.mg_none_of X G z_enumerate, PySem.W.mg_none_of X G z_int, PySem.W.mg_none_of X G z_isinstance, PySem.W.mg_none_of X G z_len, PySem.W.mg_none_of X G z_list, PySem.W.mg_none_of X G z_max, PySem.W.mg_none_of X G z_min, PySem.W.mg_none_of X G z_range, PySem.W.mg_none_of X G z_repr, PySem.W.mg_none_of X G z_str, PySem.W.mg_none_of X G z_sum, PySem.W.mg_none_of X G z_tuple, PySem.W.mg_none_of X G z_zip, ⟨_, PySem.W.mg_of X G v_AT, fun H => .inr ⟨_, _, _, w_AT, rfl, rfl, by show 2 ≤ sizeLine; decide, .cons ⟨_, rfl⟩ (.cons ⟨_, rfl⟩ (.nil))⟩⟩, ⟨_, PySem.W.mg_of X G v_CELLS⟩, ⟨_, PySem.W.mg_of X G v_COUNT_LESS_ONE, fun H => .inr ⟨_, _, _, w_COUNT_LESS_ONE, rfl, rfl, by show 2 ≤ sizeLine; decide, .cons ⟨_, rfl⟩ (.cons ⟨_, rfl⟩ (.nil))⟩⟩, ⟨_, PySem.W.mg_of X G v_FIRST, fun H => .inr ⟨_, _, _, w_FIRST, rfl, rfl, by show 2 ≤ sizeLine; decide, .cons ⟨_, rfl⟩ (.cons ⟨_, rfl⟩ (.nil))⟩⟩, ⟨_, PySem.W.mg_of X G v_GROUPS, fun H => .inr ⟨_, _, _, w_GROUPS, rfl, rfl, by show 3 ≤ sizeLine; decide, .cons ⟨_, rfl⟩ (.cons ⟨_, rfl⟩ (.cons ⟨_, rfl⟩ (.nil)))⟩⟩, ⟨_, PySem.W.mg_of X G v_KIND, fun H => .inr ⟨_, _, _, w_KIND, rfl, rfl, by show 2 ≤ sizeLine; decide, .cons ⟨_, rfl⟩ (.cons ⟨_, rfl⟩ (.nil))⟩⟩, ⟨_, PySem.W.mg_of X G v_LEAST_COUNT⟩, ⟨_, PySem.W.mg_of X G v_MOST_FIGURES⟩, ⟨_, PySem.W.mg_of X G v_RIGHTS⟩, ⟨_, PySem.W.mg_of X G v_RIGHTS_BITS, fun H => .inr ⟨_, _, _, w_RIGHTS_BITS, rfl, rfl, by show 2 ≤ sizeLine; decide, .cons ⟨_, rfl⟩ (.cons ⟨_, rfl⟩ (.nil))⟩⟩, ⟨_, PySem.W.mg_of X G v_STEP, fun H => .inr ⟨_, _, _, w_STEP, rfl, rfl, by show 2 ≤ sizeLine; decide, .cons ⟨_, rfl⟩ (.cons ⟨_, rfl⟩ (.nil))⟩⟩, ⟨_, PySem.W.mg_of X G v_TOP_COUNT⟩, ⟨_, PySem.W.mg_of X G v_TOP_KIND⟩, ⟨_, PySem.W.mg_of X G v_TOP_STEP⟩, ⟨_, PySem.W.mg_of X G v_WORTHS⟩, ⟨C_NoFields, PySem.W.mg_of X G ac_NoFields, ac_NoFields⟩, ⟨C_NoRows, PySem.W.mg_of X G ac_NoRows, ac_NoRows⟩, ⟨C_NoText, PySem.W.mg_of X G ac_NoText, ac_NoText⟩, fun C D h1 h2 => by cases ns_one ac_NoFields h1; cases ns_one ac_NoFields h2; exact exm_own xb_NoFields_NoFields xh_NoFields_NoFields xt_NoFields_NoFields xs_NoFields_NoFields, fun C D h1 h2 => by cases ns_one ac_NoText h1; cases ns_one ac_NoText h2; exact exm_own xb_NoText_NoText xh_NoText_NoText xt_NoText_NoText xs_NoText_NoText, fun C h1 => by cases ns_one ac_NoText h1; exact ⟨ecg_NoText, eck_NoText, ecs_NoText, ecd_NoText, eca_NoText, ecn_NoText, ect_NoText, ecm_NoText⟩, fun C D h1 h2 => by cases ns_one ac_NoText h1; cases ns_one ac_NoRows h2; exact kt_NoText_NoRows, fun C h1 => by cases ns_one ac_NoText h1; exact kt_NoText_ValueError, fun C h1 => by cases ns_one ac_NoText h1; exact ef_NoText_number⟩
  intro base H s a ns kb nb e0 hS hlen
  have TO_NoFields : OexC K C_NoFields := ⟨⟨_, _, _, _, _, _, _, _, _, _, _, _, _, _, _, xl_NoFields, by rfl⟩, sa_NoFields, eb_NoFields, ty_NoFields, kc_NoFields⟩
  have FI_NoFields := fun_mk (st := si_NoFields) li_NoFields ci_NoFields ki_NoFields
  have R_NoFields : ErrK l.prog w K mg base "NoFields" "text" := ⟨C_NoFields, fi_NoFields, _, ac_NoFields, PySem.W.mg_of X G ac_NoFields, TO_NoFields, in_NoFields, ti_NoFields, oki_NoFields FI_NoFields TO_NoFields no_NoFields, FI_NoFields.binds fun _ _ _ _ _ _ us hl => match us, hl with | [_, _], _ => rfl⟩
  have TO_NoText : OexC K C_NoText := ⟨⟨_, _, _, _, _, _, _, _, _, _, _, _, _, _, _, xl_NoText, by rfl⟩, sa_NoText, eb_NoText, ty_NoText, kc_NoText⟩
  have FI_NoText := fun_mk (st := si_NoText) li_NoText ci_NoText ki_NoText
  have R_NoText : ErrK l.prog w K mg base "NoText" "number" := ⟨C_NoText, fi_NoText, _, ac_NoText, PySem.W.mg_of X G ac_NoText, TO_NoText, in_NoText, ti_NoText, oki_NoText FI_NoText TO_NoText no_NoText, FI_NoText.binds fun _ _ _ _ _ _ us hl => match us, hl with | [_, _], _ => rfl⟩
  have C_whole_in : Cal l.prog w K mg base "whole_in" 1 ["text"] (sp_whole_in K) := ⟨_, _, ok_whole_in F0 T, PySem.W.mg_of X G a0, F0.kp, F0.binds fun _ _ _ _ _ _ us hl => match us, hl with | [_], _ => rfl⟩
  have C_is_whole : Cal l.prog w K mg base "is_whole" 1 ["thing", "least", "most"] (sp_is_whole K) := ⟨_, _, ok_is_whole F1 T, PySem.W.mg_of X G a1, F1.kp, F1.binds fun _ _ _ _ _ _ us hl => match us, hl with | [_, _, _], _ => rfl⟩
  have C_are_bounds : Cal l.prog w K mg base "are_bounds" 2 ["low", "high"] (sp_are_bounds K) := ⟨_, _, ok_are_bounds F2 T C_is_whole, PySem.W.mg_of X G a2, F2.kp, F2.binds fun _ _ _ _ _ _ us hl => match us, hl with | [_, _], _ => rfl⟩
  have C_look_at_bounds : Cal l.prog w K mg base "look_at_bounds" 3 ["low", "high"] (sp_look_at_bounds K) := ⟨_, _, ok_look_at_bounds F3 T C_are_bounds, PySem.W.mg_of X G a3, F3.kp, F3.binds fun _ _ _ _ _ _ us hl => match us, hl with | [_, _], _ => rfl⟩
  have C__steps_over : Cal l.prog w K mg base "_steps_over" 1 ["low", "high", "step"] (sp__steps_over K) := ⟨_, _, ok__steps_over F4 T, PySem.W.mg_of X G a4, F4.kp, F4.binds fun _ _ _ _ _ _ us hl => match us, hl with | [_, _, _], _ => rfl⟩
  have C_in_bits : Cal l.prog w K mg base "in_bits" 4 ["low", "high"] (sp_in_bits K) := ⟨_, _, ok_in_bits F5 T C_look_at_bounds C__steps_over, PySem.W.mg_of X G a5, F5.kp, F5.binds fun _ _ _ _ _ _ us hl => match us, hl with | [_, _], _ => rfl⟩
  have C_least_bounds : Cal l.prog w K mg base "least_bounds" 5 ["low", "high"] (sp_least_bounds K) := ⟨_, _, ok_least_bounds F6 T C_in_bits, PySem.W.mg_of X G a6, F6.kp, F6.binds fun _ _ _ _ _ _ us hl => match us, hl with | [_, _], _ => rfl⟩
  have C_is_exact : Cal l.prog w K mg base "is_exact" 6 ["low", "high"] (sp_is_exact K) := ⟨_, _, ok_is_exact F7 T C_least_bounds, PySem.W.mg_of X G a7, F7.kp, F7.binds fun _ _ _ _ _ _ us hl => match us, hl with | [_, _], _ => rfl⟩
  have C__has_some : Cal l.prog w K mg base "_has_some" 1 ["rights", "group"] (sp__has_some K) := ⟨_, _, ok__has_some F8 T, PySem.W.mg_of X G a8, F8.kp, F8.binds fun _ _ _ _ _ _ us hl => match us, hl with | [_, _], _ => rfl⟩
  have C__lead_one_way : Cal l.prog w K mg base "_lead_one_way" 2 ["rights"] (sp__lead_one_way K) := ⟨_, _, ok__lead_one_way F9 T C__has_some, PySem.W.mg_of X G a9, F9.kp, F9.binds fun _ _ _ _ _ _ us hl => match us, hl with | [_], _ => rfl⟩
  have C_bits_of_rights : Cal l.prog w K mg base "bits_of_rights" 1 ["rights"] (sp_bits_of_rights K) := ⟨_, _, ok_bits_of_rights F10 T, PySem.W.mg_of X G a10, F10.kp, F10.binds fun _ _ _ _ _ _ us hl => match us, hl with | [_], _ => rfl⟩
  have C_field : Cal l.prog w K mg base "field" 1 ["bits", "place"] (sp_field K) := ⟨_, _, ok_field F11 T, PySem.W.mg_of X G a11, F11.kp, F11.binds fun _ _ _ _ _ _ us hl => match us, hl with | [_, _], _ => rfl⟩
  have C_rights_in : Cal l.prog w K mg base "rights_in" 2 ["bits"] (sp_rights_in K) := ⟨_, _, ok_rights_in F12 T C_field, PySem.W.mg_of X G a12, F12.kp, F12.binds fun _ _ _ _ _ _ us hl => match us, hl with | [_], _ => rfl⟩
  have C__tell : Cal l.prog w K mg base "_tell" 2 ["bits"] (sp__tell K) := ⟨_, _, ok__tell F13 T C_field, PySem.W.mg_of X G a13, F13.kp, F13.binds fun _ _ _ _ _ _ us hl => match us, hl with | [_], _ => rfl⟩
  have C_bounds_in : Cal l.prog w K mg base "bounds_in" 2 ["bits"] (sp_bounds_in K) := ⟨_, _, ok_bounds_in F14 T C_field, PySem.W.mg_of X G a14, F14.kp, F14.binds fun _ _ _ _ _ _ us hl => match us, hl with | [_], _ => rfl⟩
  have C_fields_of : Cal l.prog w K mg base "fields_of" 3 ["word"] (sp_fields_of K) := ⟨_, _, ok_fields_of F15 T C_field C_rights_in C__tell C_bounds_in, PySem.W.mg_of X G a15, F15.kp, F15.binds fun _ _ _ _ _ _ us hl => match us, hl with | [_], _ => rfl⟩
  have C_is_rights : Cal l.prog w K mg base "is_rights" 1 ["thing"] (sp_is_rights K) := ⟨_, _, ok_is_rights F16 T, PySem.W.mg_of X G a16, F16.kp, F16.binds fun _ _ _ _ _ _ us hl => match us, hl with | [_], _ => rfl⟩
  have C__are_fields : Cal l.prog w K mg base "_are_fields" 7 ["thing"] (sp__are_fields K) := ⟨_, _, ok__are_fields F17 T C_is_whole C_are_bounds C_is_exact C__lead_one_way C_is_rights, PySem.W.mg_of X G a17, F17.kp, F17.binds fun _ _ _ _ _ _ us hl => match us, hl with | [_], _ => rfl⟩
  have FD18 : FunD K "word_of" "word_of" (defArgs s_word_of) (defBody s_word_of) (defScope s_word_of) [] [("marked", V.bl true)] f18 _ := ⟨⟨_, _, _, _, _, _, _, _, _, _, rfl, l18, c18, .inl ⟨rfl, rfl⟩, .inr ⟨D18, rfl, fun q hq => by simp at hq; subst hq; exact ⟨_, d18_marked, rfl⟩⟩⟩, k18⟩
  obtain ⟨ds18, hd18, hb18⟩ := FD18.binds0 1 (ps := ["fields", "marked"]) (by simp) rfl (fun D doc pm an cdv ct us ks h1 h2 => match us, h1, ks, h2 with | [_], _, [_], _ => ⟨_, _, _, _, _, _, rfl, rfl, rfl⟩)
  have C_word_of : CalXD l.prog w K mg base "word_of" 8 ["fields", "marked"] [.bl true] (sp_word_of K) := ⟨_, _, ds18, ok_word_of F18 T C_in_bits C_bits_of_rights C__are_fields R_NoFields, PySem.W.mg_of X G a18, F18.kp, hd18, hb18⟩
  have C_is_word : Cal l.prog w K mg base "is_word" 2 ["thing"] (sp_is_word K) := ⟨_, _, ok_is_word F19 T C_is_whole, PySem.W.mg_of X G a19, F19.kp, F19.binds fun _ _ _ _ _ _ us hl => match us, hl with | [_], _ => rfl⟩
  have C__may_be_marked : Cal l.prog w K mg base "_may_be_marked" 3 ["bits"] (sp__may_be_marked K) := ⟨_, _, ok__may_be_marked F20 T C__lead_one_way C_rights_in C__tell, PySem.W.mg_of X G a20, F20.kp, F20.binds fun _ _ _ _ _ _ us hl => match us, hl with | [_], _ => rfl⟩
  have C_is_lawful : Cal l.prog w K mg base "is_lawful" 4 ["thing"] (sp_is_lawful K) := ⟨_, _, ok_is_lawful F21 T C_is_word C__may_be_marked, PySem.W.mg_of X G a21, F21.kp, F21.binds fun _ _ _ _ _ _ us hl => match us, hl with | [_], _ => rfl⟩
  have C_shown_word_n_word : CalN CX0 l.prog w K mg base "shown_word" 4 ["word"] ["word"] id (sp_shown_word K) := ⟨_, _, fun us ws => id ws, ok_shown_word F22 T C_fields_of, PySem.W.mg_of X G a22, F22.kp, ⟨fun s us ws X l1 l2 => match us, l1, ws, l2 with | [], _, [_], _ => .of_eq rfl, fun _ r => r⟩⟩
  have C_shown_word : Cal l.prog w K mg base "shown_word" 4 ["word"] (sp_shown_word K) := ⟨_, _, ok_shown_word F22 T C_fields_of, PySem.W.mg_of X G a22, F22.kp, F22.binds fun _ _ _ _ _ _ us hl => match us, hl with | [_], _ => rfl⟩
  have C__marked_word_in : Cal l.prog w K mg base "_marked_word_in" 9 ["text"] (sp__marked_word_in K) := ⟨_, _, ok__marked_word_in F23 T C_whole_in C_word_of C_shown_word, PySem.W.mg_of X G a23, F23.kp, F23.binds fun _ _ _ _ _ _ us hl => match us, hl with | [_], _ => rfl⟩
  have C_read_word_n_text : CalN (L2.CX l.prog w) l.prog w K mg base "read_word" 10 ["text"] ["text"] id (sp_read_word K) := ⟨_, _, fun us ws => id ws, ok_read_word F24 T C_whole_in C_is_word C__marked_word_in R_NoText, PySem.W.mg_of X G a24, F24.kp, ⟨fun s us ws X l1 l2 => match us, l1, ws, l2 with | [], _, [_], _ => .of_eq rfl, fun _ r => r⟩⟩
  have C_read_word : CalX l.prog w K mg base "read_word" 10 ["text"] (sp_read_word K) := ⟨_, _, ok_read_word F24 T C_whole_in C_is_word C__marked_word_in R_NoText, PySem.W.mg_of X G a24, F24.kp, F24.binds fun _ _ _ _ _ _ us hl => match us, hl with | [_], _ => rfl⟩
  have C__law_take : Cal l.prog w K mg base "_law_take" 1 ["_law_pool_here", "_law_many"] (sp__law_take K) := ⟨_, _, ok__law_take F25 T, PySem.W.mg_of X G a25, F25.kp, F25.binds fun _ _ _ _ _ _ us hl => match us, hl with | [_, _], _ => rfl⟩
  have C__law_pool : Cal l.prog w K mg base "_law_pool" 1 ["_law_script", "_law_k"] (sp__law_pool K) := ⟨_, _, ok__law_pool F26 T, PySem.W.mg_of X G a26, F26.kp, F26.binds fun _ _ _ _ _ _ us hl => match us, hl with | [_, _], _ => rfl⟩
  have C__law_bits : Cal l.prog w K mg base "_law_bits" 1 ["_law_at", "_law_first", "_law_count", "_law_step", "_law_rights", "_law_kind"] (sp__law_bits K) := ⟨_, _, ok__law_bits F27 T, PySem.W.mg_of X G a27, F27.kp, F27.binds fun _ _ _ _ _ _ us hl => match us, hl with | [_, _, _, _, _, _], _ => rfl⟩
  have C__law_mask : Cal l.prog w K mg base "_law_mask" 2 ["_law_pool_here"] (sp__law_mask K) := ⟨_, _, ok__law_mask F28 T C__law_take, PySem.W.mg_of X G a28, F28.kp, F28.binds fun _ _ _ _ _ _ us hl => match us, hl with | [_], _ => rfl⟩
  have C__law_drawn : Cal l.prog w K mg base "_law_drawn" 3 ["_law_pool_here"] (sp__law_drawn K) := ⟨_, _, ok__law_drawn F29 T C__law_take C__law_bits C__law_mask, PySem.W.mg_of X G a29, F29.kp, F29.binds fun _ _ _ _ _ _ us hl => match us, hl with | [_], _ => rfl⟩
  have C__law_fields : Cal l.prog w K mg base "_law_fields" 1 ["_law_bits_here"] (sp__law_fields K) := ⟨_, _, ok__law_fields F30 T, PySem.W.mg_of X G a30, F30.kp, F30.binds fun _ _ _ _ _ _ us hl => match us, hl with | [_], _ => rfl⟩
  have C__law_good : Cal l.prog w K mg base "_law_good" 1 ["_law_rights"] (sp__law_good K) := ⟨_, _, ok__law_good F31 T, PySem.W.mg_of X G a31, F31.kp, F31.binds fun _ _ _ _ _ _ us hl => match us, hl with | [_], _ => rfl⟩
  have C__law_text : Cal l.prog w K mg base "_law_text" 2 ["_law_own"] (sp__law_text K) := ⟨_, _, ok__law_text F32 T C__law_fields, PySem.W.mg_of X G a32, F32.kp, F32.binds fun _ _ _ _ _ _ us hl => match us, hl with | [_], _ => rfl⟩
  have C__law_figures : Cal l.prog w K mg base "_law_figures" 1 ["_law_here"] (sp__law_figures K) := ⟨_, _, ok__law_figures F33 T, PySem.W.mg_of X G a33, F33.kp, F33.binds fun _ _ _ _ _ _ us hl => match us, hl with | [_], _ => rfl⟩
  have C__law_exact : Cal l.prog w K mg base "_law_exact" 1 ["_law_low", "_law_high"] (sp__law_exact K) := ⟨_, _, ok__law_exact F34 T, PySem.W.mg_of X G a34, F34.kp, F34.binds fun _ _ _ _ _ _ us hl => match us, hl with | [_, _], _ => rfl⟩
  have C__law_due : Cal l.prog w K mg base "_law_due" 9 ["_law_here"] (sp__law_due K) := ⟨_, _, ok__law_due F35 T C_word_of C__law_good C__law_figures C__law_exact, PySem.W.mg_of X G a35, F35.kp, F35.binds fun _ _ _ _ _ _ us hl => match us, hl with | [_], _ => rfl⟩
  have C__law_told : Cal l.prog w K mg base "_law_told" 11 ["_law_here"] (sp__law_told K) := ⟨_, _, ok__law_told F36 T C_read_word, PySem.W.mg_of X G a36, F36.kp, F36.binds fun _ _ _ _ _ _ us hl => match us, hl with | [_], _ => rfl⟩
  have C__law_bent : Cal l.prog w K mg base "_law_bent" 2 ["_law_pool_here", "_law_here"] (sp__law_bent K) := ⟨_, _, ok__law_bent F37 T C__law_take, PySem.W.mg_of X G a37, F37.kp, F37.binds fun _ _ _ _ _ _ us hl => match us, hl with | [_, _], _ => rfl⟩
  exact ok_law l38 c38 T C_word_of C_is_lawful C_shown_word C_shown_word_n_word C_read_word C_read_word_n_text C__law_pool C__law_drawn C__law_text C__law_due C__law_told C__law_bent e0 hS hlen
end My
open PySem PySem.W PyProof.Rows
set_option maxRecDepth 100000 in
set_option maxHeartbeats 0 in
theorem PySem.Challenge.cw_sealedreach_k71_words_written_and_read_holds : PySem.Challenge.rw_sealedreach_k71_words_written_and_read.Holds := by
  w_on; o_law; k_head; (case hw => w_witness2)
  k_fill
  refine My.walk_scr (l := PySem.Challenge.rw_sealedreach_k71_words_written_and_read) (n := 63) rfl (by decide) rfl (fun w h Y => PySem.W.kIn_of Y) ?F
  case F =>
    intro w mg fa h KX G hmg
    refine' My.all_mk KX G hmg ?a0 ?l0 ?c0 ?k0 ?a1 ?l1 ?c1 ?k1 ?a2 ?l2 ?c2 ?k2 ?a3 ?l3 ?c3 ?k3 ?a4 ?l4 ?c4 ?k4 ?a5 ?l5 ?c5 ?k5 ?a6 ?l6 ?c6 ?k6 ?a7 ?l7 ?c7 ?k7 ?a8 ?l8 ?c8 ?k8 ?a9 ?l9 ?c9 ?k9 ?a10 ?l10 ?c10 ?k10 ?a11 ?l11 ?c11 ?k11 ?a12 ?l12 ?c12 ?k12 ?a13 ?l13 ?c13 ?k13 ?a14 ?l14 ?c14 ?k14 ?a15 ?l15 ?c15 ?k15 ?a16 ?l16 ?c16 ?k16 ?a17 ?l17 ?c17 ?k17 ?a18 ?l18 ?c18 ?k18 ?d18_marked ?a19 ?l19 ?c19 ?k19 ?a20 ?l20 ?c20 ?k20 ?a21 ?l21 ?c21 ?k21 ?a22 ?l22 ?c22 ?k22 ?a23 ?l23 ?c23 ?k23 ?a24 ?l24 ?c24 ?k24 ?a25 ?l25 ?c25 ?k25 ?a26 ?l26 ?c26 ?k26 ?a27 ?l27 ?c27 ?k27 ?a28 ?l28 ?c28 ?k28 ?a29 ?l29 ?c29 ?k29 ?a30 ?l30 ?c30 ?k30 ?a31 ?l31 ?c31 ?k31 ?a32 ?l32 ?c32 ?k32 ?a33 ?l33 ?c33 ?k33 ?a34 ?l34 ?c34 ?k34 ?a35 ?l35 ?c35 ?k35 ?a36 ?l36 ?c36 ?k36 ?a37 ?l37 ?c37 ?k37 ?a38 ?l38 ?c38 ?k38 ?z_ValueError ?z_abs ?z_any ?z_bool ?z_enumerate ?z_int ?z_isinstance ?z_len ?z_list ?z_max ?z_min ?z_range ?z_repr ?z_str ?z_sum ?z_tuple ?z_zip ?v_AT ?w_AT ?v_CELLS ?v_COUNT_LESS_ONE ?w_COUNT_LESS_ONE ?v_FIRST ?w_FIRST ?v_GROUPS ?w_GROUPS ?v_KIND ?w_KIND ?v_LEAST_COUNT ?v_MOST_FIGURES ?v_RIGHTS ?v_RIGHTS_BITS ?w_RIGHTS_BITS ?v_STEP ?w_STEP ?v_TOP_COUNT ?v_TOP_KIND ?v_TOP_STEP ?v_WORTHS ?ac_NoFields ?ac_NoRows ?ac_NoText ?xl_NoFields ?sa_NoFields ?eb_NoFields ?ty_NoFields ?kc_NoFields ?no_NoFields ?in_NoFields ?ti_NoFields ?li_NoFields ?ci_NoFields ?ki_NoFields ?xl_NoText ?sa_NoText ?eb_NoText ?ty_NoText ?kc_NoText ?no_NoText ?in_NoText ?ti_NoText ?li_NoText ?ci_NoText ?ki_NoText ?xb_NoFields_NoFields ?xh_NoFields_NoFields ?xt_NoFields_NoFields ?xs_NoFields_NoFields ?xb_NoText_NoText ?xh_NoText_NoText ?xt_NoText_NoText ?xs_NoText_NoText ?ecg_NoText ?eck_NoText ?ecs_NoText ?ecd_NoText ?eca_NoText ?ecn_NoText ?ect_NoText ?ecm_NoText ?kt_NoText_NoRows ?kt_NoText_ValueError ?ef_NoText_number
    (case a0 => k_is)
    (case l0 => k_is)
    (case c0 => k_is)
    (case k0 => k_is)
    (case a1 => k_is)
    (case l1 => k_is)
    (case c1 => k_is)
    (case k1 => k_is)
    (case a2 => k_is)
    (case l2 => k_is)
    (case c2 => k_is)
    (case k2 => k_is)
    (case a3 => k_is)
    (case l3 => k_is)
    (case c3 => k_is)
    (case k3 => k_is)
    (case a4 => k_is)
    (case l4 => k_is)
    (case c4 => k_is)
    (case k4 => k_is)
    (case a5 => k_is)
    (case l5 => k_is)
    (case c5 => k_is)
    (case k5 => k_is)
    (case a6 => k_is)
    (case l6 => k_is)
    (case c6 => k_is)
    (case k6 => k_is)
    (case a7 => k_is)
    (case l7 => k_is)
    (case c7 => k_is)
    (case k7 => k_is)
    (case a8 => k_is)
    (case l8 => k_is)
    (case c8 => k_is)
    (case k8 => k_is)
    (case a9 => k_is)
    (case l9 => k_is)
    (case c9 => k_is)
    (case k9 => k_is)
    (case a10 => k_is)
    (case l10 => k_is)
    (case c10 => k_is)
    (case k10 => k_is)
    (case a11 => k_is)
    (case l11 => k_is)
    (case c11 => k_is)
    (case k11 => k_is)
    (case a12 => k_is)
    (case l12 => k_is)
    (case c12 => k_is)
    (case k12 => k_is)
    (case a13 => k_is)
    (case l13 => k_is)
    (case c13 => k_is)
    (case k13 => k_is)
    (case a14 => k_is)
    (case l14 => k_is)
    (case c14 => k_is)
    (case k14 => k_is)
    (case a15 => k_is)
    (case l15 => k_is)
    (case c15 => k_is)
    (case k15 => k_is)
    (case a16 => k_is)
    (case l16 => k_is)
    (case c16 => k_is)
    (case k16 => k_is)
    (case a17 => k_is)
    (case l17 => k_is)
    (case c17 => k_is)
    (case k17 => k_is)
    (case a18 => k_is)
    (case l18 => k_is)
    (case c18 => k_is)
    (case k18 => k_is)
    (case d18_marked => k_is)
    (case a19 => k_is)
    (case l19 => k_is)
    (case c19 => k_is)
    (case k19 => k_is)
    (case a20 => k_is)
    (case l20 => k_is)
    (case c20 => k_is)
    (case k20 => k_is)
    (case a21 => k_is)
    (case l21 => k_is)
    (case c21 => k_is)
    (case k21 => k_is)
    (case a22 => k_is)
    (case l22 => k_is)
    (case c22 => k_is)
    (case k22 => k_is)
    (case a23 => k_is)
    (case l23 => k_is)
    (case c23 => k_is)
    (case k23 => k_is)
    (case a24 => k_is)
    (case l24 => k_is)
    (case c24 => k_is)
    (case k24 => k_is)
    (case a25 => k_is)
    (case l25 => k_is)
    (case c25 => k_is)
    (case k25 => k_is)
    (case a26 => k_is)
    (case l26 => k_is)
    (case c26 => k_is)
    (case k26 => k_is)
    (case a27 => k_is)
    (case l27 => k_is)
    (case c27 => k_is)
    (case k27 => k_is)
    (case a28 => k_is)
    (case l28 => k_is)
    (case c28 => k_is)
    (case k28 => k_is)
    (case a29 => k_is)
    (case l29 => k_is)
    (case c29 => k_is)
    (case k29 => k_is)
    (case a30 => k_is)
    (case l30 => k_is)
    (case c30 => k_is)
    (case k30 => k_is)
    (case a31 => k_is)
    (case l31 => k_is)
    (case c31 => k_is)
    (case k31 => k_is)
    (case a32 => k_is)
    (case l32 => k_is)
    (case c32 => k_is)
    (case k32 => k_is)
    (case a33 => k_is)
    (case l33 => k_is)
    (case c33 => k_is)
    (case k33 => k_is)
    (case a34 => k_is)
    (case l34 => k_is)
    (case c34 => k_is)
    (case k34 => k_is)
    (case a35 => k_is)
    (case l35 => k_is)
    (case c35 => k_is)
    (case k35 => k_is)
    (case a36 => k_is)
    (case l36 => k_is)
    (case c36 => k_is)
    (case k36 => k_is)
    (case a37 => k_is)
    (case l37 => k_is)
    (case c37 => k_is)
    (case k37 => k_is)
    (case a38 => k_is)
    (case l38 => k_is)
    (case c38 => k_is)
    (case k38 => k_is)
    (case z_ValueError => k_is)
    (case z_abs => k_is)
    (case z_any => k_is)
    (case z_bool => k_is)
    (case z_enumerate => k_is)
    (case z_int => k_is)
    (case z_isinstance => k_is)
    (case z_len => k_is)
    (case z_list => k_is)
    (case z_max => k_is)
    (case z_min => k_is)
    (case z_range => k_is)
    (case z_repr => k_is)
    (case z_str => k_is)
    (case z_sum => k_is)
    (case z_tuple => k_is)
    (case z_zip => k_is)
    (case v_AT => k_is)
    (case w_AT => k_is)
    (case v_CELLS => k_is)
    (case v_COUNT_LESS_ONE => k_is)
    (case w_COUNT_LESS_ONE => k_is)
    (case v_FIRST => k_is)
    (case w_FIRST => k_is)
    (case v_GROUPS => k_is)
    (case w_GROUPS => k_is)
    (case v_KIND => k_is)
    (case w_KIND => k_is)
    (case v_LEAST_COUNT => k_is)
    (case v_MOST_FIGURES => k_is)
    (case v_RIGHTS => k_is)
    (case v_RIGHTS_BITS => k_is)
    (case w_RIGHTS_BITS => k_is)
    (case v_STEP => k_is)
    (case w_STEP => k_is)
    (case v_TOP_COUNT => k_is)
    (case v_TOP_KIND => k_is)
    (case v_TOP_STEP => k_is)
    (case v_WORTHS => k_is)
    (case ac_NoFields => k_is)
    (case ac_NoRows => k_is)
    (case ac_NoText => k_is)
    (case xl_NoFields => k_is)
    (case sa_NoFields => k_is)
    (case eb_NoFields => k_is)
    (case ty_NoFields => k_is)
    (case kc_NoFields => k_is)
    (case no_NoFields => k_is)
    (case in_NoFields => k_is)
    (case ti_NoFields => k_is)
    (case li_NoFields => k_is)
    (case ci_NoFields => k_is)
    (case ki_NoFields => k_is)
    (case xl_NoText => k_is)
    (case sa_NoText => k_is)
    (case eb_NoText => k_is)
    (case ty_NoText => k_is)
    (case kc_NoText => k_is)
    (case no_NoText => k_is)
    (case in_NoText => k_is)
    (case ti_NoText => k_is)
    (case li_NoText => k_is)
    (case ci_NoText => k_is)
    (case ki_NoText => k_is)
    (case xb_NoFields_NoFields => k_is)
    (case xh_NoFields_NoFields => k_is)
    (case xt_NoFields_NoFields => k_is)
    (case xs_NoFields_NoFields => k_is)
    (case xb_NoText_NoText => k_is)
    (case xh_NoText_NoText => k_is)
    (case xt_NoText_NoText => k_is)
    (case xs_NoText_NoText => k_is)
    (case ecg_NoText => k_is)
    (case eck_NoText => k_is)
    (case ecs_NoText => k_is)
    (case ecd_NoText => k_is)
    (case eca_NoText => k_is)
    (case ecn_NoText => k_is)
    (case ect_NoText => k_is)
    (case ecm_NoText => k_is)
    (case kt_NoText_NoRows => kit_is)
    (case kt_NoText_ValueError => kit_is)
    (case ef_NoText_number => k_is)
