import PyProof.Rows.All
import Wide.All
import OpenK.AllK
import Wide.FinOn
import HandS.ForMost
import HandS.ForExc
import HandS.IsInst
import HandS.ExcInit
import KE.KExcIs
import HandS.Conv
import HandS.TupLe
import HandS.Walk
import HandS.Zip
import HandS.Wide
import HandS.SetFor
import HandS.Defaults
import HandS.MakeKwOnly
import PyProof.ReprLen
import HandS.ReplaceLit
import HandS.ReplaceList
import HandS.Deep
import HandS.ExcField
import HandS.CallSlots
import HandS.Dict
import HandS.More
import HandS.Codes
import HandS.Sort
import HandS.OwnEq
import PyProof.InstEq
import PySem.Challenge.RW_sealedreach_k20_cells_laid_and_cleared
set_option Elab.async false
set_option linter.all false
set_option maxRecDepth 100000
set_option maxHeartbeats 4000000
namespace My
open PySem PySem.Spec PyProof.Rows L2
/-! ### calls of a def by its name alone -/
structure Cal (P : Program) (w : World) (K : PySem.W.Frag) (mg : Str → Option Value) (base : Heap) (x : Str) (k : Nat) (ps : List Str) (sp : Sp) : Prop where
  ex : ∃ (f : Addr) (fd : FuncData), FnOk P w K mg base CX0 k f fd ps sp ∧ mg x = some (.ref f) ∧ PySem.W.keepIn K (.ref f) = true ∧ Binds K fd ps []
theorem pe_cal {X : Cx} {x : Str} {k : Nat} {ps : List Str} {sp : Sp} {e : Expr} {es : List Expr} {t : TA} {p pos : Pos} (C : Cal X.prog X.w X.K X.mg X.base x k ps sp) (hr : Room k X.A)
    (ha : PA X (e :: es) t) (hg : Gl X x := by rfl) (hdb : (x == ("__debug__" : Str)) = false := by decide) (he : starEach (e :: es) X.env = (false, eval e X.env) :: starEach es X.env := by rfl) (hpl : (backTo pos (starEach es X.env)).any (·.1) = false := by rfl) :
    PE X (.Call (.Name x p) (e :: es) [] pos) (tCall sp [] E0 t) := by
  obtain ⟨f, fd, G, g, kp, b⟩ := C.ex
  exact pe_call G hr hg g kp b .nil pass0 ha hdb he hpl
theorem pe_cal0 {X : Cx} {x : Str} {k : Nat} {sp : Sp} {p pos : Pos} (C : Cal X.prog X.w X.K X.mg X.base x k [] sp) (hr : Room k X.A) (hg : Gl X x := by rfl) (hdb : (x == ("__debug__" : Str)) = false := by decide) :
    PE X (.Call (.Name x p) [] [] pos) (fun σ H Q => sp [] H Q E0) := by
  obtain ⟨f, fd, G, g, kp, b⟩ := C.ex
  exact pe_call0 G hr hg g kp b .nil pass0 hdb
/-- .. with defaults of its keyword-only names -/
structure CalD (P : Program) (w : World) (K : PySem.W.Frag) (mg : Str → Option Value) (base : Heap) (x : Str) (k : Nat) (ps : List Str) (dvs : List V) (sp : Sp) : Prop where
  ex : ∃ (f : Addr) (fd : FuncData) (ds : List Value), FnOk P w K mg base CX0 k f fd ps sp ∧ mg x = some (.ref f) ∧ PySem.W.keepIn K (.ref f) = true ∧ Vals dvs ds ∧ Binds K fd ps ds
theorem pe_calD {X : Cx} {x : Str} {k : Nat} {ps : List Str} {dvs : List V} {sp : Sp} {e : Expr} {es : List Expr} {t : TA} {p pos : Pos} (C : CalD X.prog X.w X.K X.mg X.base x k ps dvs sp) (hr : Room k X.A)
    (ha : PA X (e :: es) t) (hg : Gl X x := by rfl) (hdb : (x == ("__debug__" : Str)) = false := by decide) (he : starEach (e :: es) X.env = (false, eval e X.env) :: starEach es X.env := by rfl) (hpl : (backTo pos (starEach es X.env)).any (·.1) = false := by rfl) :
    PE X (.Call (.Name x p) (e :: es) [] pos) (tCall sp dvs E0 t) := by
  obtain ⟨f, fd, ds, G, g, kp, hd, b⟩ := C.ex
  exact pe_call G hr hg g kp b hd pass0 ha hdb he hpl
/-- .. called with one place and its keyword-only names -/
structure CalK (P : Program) (w : World) (K : PySem.W.Frag) (mg : Str → Option Value) (base : Heap) (x : Str) (k : Nat) (ps : List Str) (n : Nat) (ks : List Str) (sp : Sp) : Prop where
  ex : ∃ (f : Addr) (fd : FuncData) (g : List Value → List Value → List Value), FnOk P w K mg base CX0 k f fd ps sp ∧ mg x = some (.ref f) ∧ PySem.W.keepIn K (.ref f) = true ∧ KBn K fd ps n ks g (fun vs zs => vs ++ zs)
theorem pe_calK {X : Cx} {x : Str} {k n : Nat} {ps ks : List Str} {sp : Sp} {e : Expr} {es : List Expr} {kws : List Keyword} {t tk : TA} {p pos : Pos} (C : CalK X.prog X.w X.K X.mg X.base x k ps n ks sp) (hr : Room k X.A)
    (ha : PA X (e :: es) t) (hkw : PK X kws tk) (hg : Gl X x := by rfl) (hall : (backToKw pos (keywordEach kws X.env)).all (·.1.isSome) = true := by rfl) (hks : (backToKw pos (keywordEach kws X.env)).filterMap (·.1) = ks := by rfl)
    (hdb : (x == ("__debug__" : Str)) = false := by decide) (he : starEach (e :: es) X.env = (false, eval e X.env) :: starEach es X.env := by rfl)
    (hpl : ((backTo pos (starEach (e :: es) X.env)).any (·.1) || (backToKw pos (keywordEach kws X.env)).any (·.1.isNone)) = false := by rfl) :
    PE X (.Call (.Name x p) (e :: es) kws pos) (tCallN n ks.length sp (fun vs zs => vs ++ zs) E0 t tk) := by
  obtain ⟨f, fd, g, G, gm, kp, b⟩ := C.ex
  exact pe_callN G hr hg gm kp b pass0 ha hkw hall hks hdb he hpl
/-! ### tests -/
theorem ifnd {p : Prop} [Decidable p] {A B : Prop} (h1 : ¬ p → A) (h2 : p → B) : if (!decide p) = true then A else B := by
  by_cases h : p
  · rw [decide_eq_true h]; exact h2 h
  · rw [decide_eq_false h]; exact h1 h
theorem ifnb {c : Bool} {A B : Prop} (h1 : c = false → A) (h2 : c = true → B) : if (!c) = true then A else B := by
  cases c with
  | true => exact h2 rfl
  | false => exact h1 rfl
theorem ifd {p : Prop} [Decidable p] {A B : Prop} (h1 : p → A) (h2 : ¬ p → B) : if decide p = true then A else B := by
  by_cases h : p
  · rw [if_pos (decide_eq_true h)]; exact h1 h
  · rw [decide_eq_false h, if_neg Bool.false_ne_true]; exact h2 h
theorem ifP {p : Prop} [Decidable p] {A B : Prop} (h : p) (h1 : A) : if decide p = true then A else B := by
  rw [if_pos (decide_eq_true h)]; exact h1
theorem ifN {p : Prop} [Decidable p] {A B : Prop} (h : ¬ p) (h1 : B) : if decide p = true then A else B := by
  rw [decide_eq_false h, if_neg Bool.false_ne_true]; exact h1
theorem ifb {c : Bool} {A B : Prop} (h1 : c = true → A) (h2 : c = false → B) : if c = true then A else B := by
  cases c with
  | true => rw [if_pos rfl]; exact h1 rfl
  | false => rw [if_neg Bool.false_ne_true]; exact h2 rfl
theorem ifbT {c : Bool} {A B : Prop} (h : c = true) (h1 : A) : if c = true then A else B := by rw [if_pos h]; exact h1
theorem ifbF {c : Bool} {A B : Prop} (h : c = false) (h1 : B) : if c = true then A else B := by rw [h, if_neg Bool.false_ne_true]; exact h1
/-! ### heaps -/
theorem viaS {H H' : Hp} {b : Addr} {o : HO} (s : Same H H') (h : H b = some o) : H' b = some o := s b o h
theorem same_new {H : Hp} {p : Addr} {o : HO} (h : H p = none) : Same H (upd H p o) := fun b x e => by
  rw [upd_ne (ne_of_none e h)]; exact e
/-- all but what stands at a is as it was -/
def But (a : Addr) (H H' : Hp) : Prop := ∀ b o, b ≠ a → H b = some o → H' b = some o
theorem viaB {H H' : Hp} {a b : Addr} {o : HO} (s : But a H H') (n : b ≠ a) (h : H b = some o) : H' b = some o := s b o n h
theorem But.refl (a : Addr) (H : Hp) : But a H H := fun _ _ _ h => h
theorem But.of {a : Addr} {H H' : Hp} (s : Same H H') : But a H H' := fun b o _ h => s b o h
theorem But.trans {a : Addr} {H H1 H2 : Hp} (s : But a H H1) (t : But a H1 H2) : But a H H2 := fun b o n h => t b o n (s b o n h)
theorem But.upd {a : Addr} {H H' : Hp} {o : HO} (s : But a H H') : But a H (upd H' a o) := fun b x n h => by
  rw [upd_ne n]; exact s b x n h
theorem But.new {a p : Addr} {H H' : Hp} {o : HO} (s : But a H H') (n : H' p = none) : But a H (L2.upd H' p o) := fun b x nb h => by
  have e := s b x nb h
  rw [upd_ne (ne_of_none e n)]; exact e
theorem sameN {p : Addr} {H H' : Hp} {o : HO} (s : Same H H') (n : H' p = none) : Same H (L2.upd H' p o) := fun b x h => by
  have e := s b x h
  rw [upd_ne (ne_of_none e n)]; exact e
theorem updK {H : Hp} {a b : Addr} {o u : HO} (n : b ≠ a) (h : H b = some u) : L2.upd H a o b = some u := by rw [upd_ne n]; exact h
/-- the pool of a law: a list of two numbers, the second small -/
def Pool (H : Hp) (a : Addr) (x y : Int) : Prop := H a = some (.lst [.int x, .int y]) ∧ 0 ≤ x ∧ 0 ≤ y ∧ y < 2147483647

local macro_rules | `(tactic| walk_at "ne") => `(tactic| first | assumption | (apply Ne.symm; assumption) | (refine ne_of_none ?_ (by assumption); walk_at "at") | (apply Ne.symm; refine ne_of_none ?_ (by assumption); walk_at "at"))
local macro_rules | `(tactic| walk_at "at") => `(tactic| first | assumption | exact upd_same | (refine updK ?n ?h; (case n => walk_at "ne"); (case h => walk_at "at")) | (refine viaS (by assumption) ?_; walk_at "at") | (refine viaB (by assumption) ?n ?h; (case n => walk_at "ne"); (case h => walk_at "at")))
local macro_rules | `(tactic| walk_at "side") => `(tactic| first | rfl | omega | decide | (refine ⟨by omega, by omega, ?_⟩; first | decide | omega) | (refine Or.inl ⟨by omega, by omega⟩) | (refine Or.inr ⟨by omega, by omega⟩) | exact ⟨by omega, by omega⟩)
/-- one step of a reading whose answers are plain -/
local macro_rules | `(tactic| walk_at "g1") => `(tactic| first | refine ⟨_, rfl, ?_⟩ | refine ⟨_, _, rfl, rfl, ?_⟩ | refine ⟨by walk_at "side", ?_⟩)
local macro_rules | `(tactic| walk_at "g") => `(tactic| repeat walk_at "g1")
theorem sz {n : Nat} (h : n ≤ 1000) : n ≤ sizeLine := Nat.le_of_lt (small1000 h)
theorem Pool.new {H : Hp} {p q : Addr} {x y : Int} {o : HO} (h : Pool H p x y) (n : H q = none) : Pool (upd H q o) p x y := ⟨by rw [upd_ne (ne_of_none h.1 n)]; exact h.1, h.2⟩
def rep (c L : Int) : Int := if (if c < L then c else L) > 1 then (if c < L then c else L) else 1
theorem rep_le {c L : Int} (h : 1 ≤ c) (h2 : c ≤ 63) : 1 ≤ rep c L ∧ rep c L ≤ c := by
  unfold rep
  by_cases d : c < L
  · simp only [if_pos d]; split <;> omega
  · simp only [if_neg d]; split <;> omega
theorem rep_lo {c L : Int} (h : 1 ≤ c) (h2 : c ≤ 63) : -(2 ^ 62) ≤ rep c L := by have := (rep_le (L := L) h h2).1; omega
theorem rep_hi {c L : Int} (h : 1 ≤ c) (h2 : c ≤ 63) : rep c L < 2 ^ 62 := by have := (rep_le (L := L) h h2).2; omega
theorem rep_i {c L : Int} {i : Nat} (h : 1 ≤ c) (h2 : c ≤ 63) (k : i < (rep c L).toNat) : i ≤ 63 := by have := (rep_le (L := L) h h2).2; omega
/-- a pool's own changes leave what stood ahead of it -/
theorem sameP {H H1 H2 H3 : Hp} {p : Addr} (s : Same H H1) (s1 : Same H1 H2) (n : H1 p = none) (b : But p H2 H3) : Same H H3 := fun c o e =>
  b c o (ne_of_none (s c o e) n) (s1 _ _ (s _ _ e))
theorem pick {xs : List V} {r : Int} (P : V → Prop) (h0 : 0 ≤ r) (h1 : r < (xs.length : Int)) (hP : ∀ v ∈ xs, P v) : ∃ v, atI xs r = some v ∧ P v := by
  obtain ⟨j, rfl⟩ : ∃ j : Nat, r = (j : Int) := ⟨r.toNat, by omega⟩
  have hj : j < xs.length := by omega
  exact ⟨xs[j], atI_nat (List.getElem?_eq_getElem hj), hP _ (List.getElem_mem hj)⟩
theorem cut63 {ns : List Int} (h : ns.length ≤ 63) : cutV (ns.map V.int) none (some 63) = ns.map V.int := by
  unfold cutV
  rw [show HT.sIx (ns.map V.int).length (ns.map V.int).length (some 63) = min 63 (ns.map V.int).length from HT.sIx_nat _ _ 63, HT.sIx_none]
  rw [List.drop_zero, Nat.sub_zero, List.length_map, Nat.min_eq_right h]
  exact List.take_of_length_le (by simp)
theorem qb {Q : VK} {H : Hp} {b b' : Bool} (q : Q (.bl b') H) (e : b = b') : Q (.bl b) H := e ▸ q
theorem qi {Q : VK} {H : Hp} {i j : Int} (q : Q (.int j) H) (e : i = j) : Q (.int i) H := e ▸ q
/-! ### enumerate over a text -/
def Ies (x : Str) : It := ⟨fun i _ => i < x.cps.size, fun i H v H' => ∃ T c, v = .ref T ∧ H T = none ∧ H' = upd H T (.tup [.int (i : Nat), .str ⟨#[c]⟩]) ∧ x.cps[i]? = some c, fun i _ => i = x.cps.size⟩
theorem turn_enumS {P : Program} {w : World} {K : PySem.W.Frag} {elts : List Expr} {kk : Nat} {tpos : Pos} (e it : Addr) (x : Str) (t : Tok) :
    Turn P w K (.Tuple elts kk tpos) (Ies x) [e, it] e (fun i h => (∃ old, IsEnum h e it ((i : Nat) : Int) old) ∧ h.IsStrIter it (strIterType x) x t i ∧ e ≠ it) where
  mem := by simp
  obj := fun i h st b hb => by
    obtain ⟨⟨old, he⟩, ⟨o, ho, hc, hd⟩, _⟩ := st
    have e' : b = e ∨ b = it := by simpa using hb
    rcases e' with z | z
    · rw [z]; exact ⟨_, he, fun v q => nomatch q⟩
    · rw [z]; exact ⟨o, ho, fun v q => by rw [hd] at q; cases q⟩
  keep := fun i h h' st k => let ⟨⟨old, he⟩, ⟨o, ho, r⟩, hne⟩ := st; ⟨⟨old, k e (by simp) _ he⟩, ⟨o, k it (by simp) o ho, r⟩, hne⟩
  item := by
    intro X hP hw hK hc i pins s σ H E I hf st hg
    subst hP hw hK
    obtain ⟨⟨old, he⟩, hit, hne⟩ := st
    have hel : e < s.heap.objs.size := Heap.lt_size he
    have hil : it < s.heap.objs.size := by obtain ⟨_, q, _⟩ := hit; exact Heap.lt_size q
    have hd : X.A.in1.handled = none := I.ok.hd hc
    have D : Draws X.prog X.w X.A.in1 it [it] x.cps.size (fun i v => ∃ c u, x.cps[i]? = some c ∧ v = .str ⟨#[c]⟩ u) (fun i h => h.IsStrIter it (strIterType x) x t i) := by
      unfold strIterType
      split
      · exact Draws.strAscii hd it x t
      · exact Draws.strWide hd it x t
    refine wpAny_pyNext_enum_itemD D he hit hg hne (by simpa using hne) fun v h' tk hv ho hit' hT hsz hk => ?_
    obtain ⟨c, u, hcx, rfl⟩ := hv
    refine ⟨_, rfl, wpAny_letOwnedTupleGo_enum (s := { s with heap := h', toks := tk + 1 }) ho fun h'' he' sb => ?_⟩
    have hT2 : h''.get? s.heap.objs.size = some { cls := .type "tuple", data := .seq #[.int i tk, .str ⟨#[c]⟩ u] } := (sb.2 _ (Nat.ne_of_gt hel)).trans hT
    have new : ObjOk X.prog X.w (upd H s.heap.objs.size (.tup [.int (i : Nat), .str ⟨#[c]⟩])) h'' s.heap.objs.size (.tup [.int (i : Nat), .str ⟨#[c]⟩]) :=
      ⟨by show 2 ≤ sizeLine; decide, [.int i tk, .str ⟨#[c]⟩ u], .cons ⟨_, rfl⟩ (.cons ⟨_, rfl⟩ .nil), ⟨_, hT2, rfl, _, rfl⟩⟩
    have I1 : Inv X pins σ (upd H s.heap.objs.size (.tup [.int (i : Nat), .str ⟨#[c]⟩])) { s with heap := h'', toks := tk + 1 } :=
      I.turnedNew (ch := [e, it]) (fun b ob hb q => (sb.2 b (fun z => hb (by simp [z]))).trans (hk b ob (fun z => hb (by simp [z])) (fun z => hb (by simp [z])) q)) hf (Nat.le_refl _) new
    refine ⟨.ref s.heap.objs.size, _, I1, rfl, ⟨_, c, rfl, I.hok.fresh (Nat.le_refl _), rfl, hcx⟩, ⟨⟨.str ⟨#[c]⟩ u, ?_⟩, ?_, hne⟩, fun b hb => ?_⟩
    · have e1 : ((i + 1 : Nat) : Int) = (i : Int) + 1 := by omega
      rw [e1]; exact he'
    · obtain ⟨o2, q2, r2⟩ := hit'
      exact ⟨o2, (sb.2 it (Ne.symm hne)).trans q2, r2⟩
    · have hb' : b < s.heap.objs.size := by
        have e' : b = e ∨ b = it := by simpa using hb
        rcases e' with z | z
        · rw [z]; exact hel
        · rw [z]; exact hil
      rw [upd_ne (Nat.ne_of_lt hb')]
      exact (hf b hb).1
  done := by
    intro X hP hw hK hc i pins s σ H E I hf st hg
    subst hP hw hK
    obtain ⟨⟨old, he⟩, hit, hne⟩ := st
    have hg' : i = x.cps.size := hg
    subst hg'
    have hd : X.A.in1.handled = none := I.ok.hd hc
    have D : Draws X.prog X.w X.A.in1 it [it] x.cps.size (fun i v => ∃ c u, x.cps[i]? = some c ∧ v = .str ⟨#[c]⟩ u) (fun i h => h.IsStrIter it (strIterType x) x t i) := by
      unfold strIterType
      split
      · exact Draws.strAscii hd it x t
      · exact Draws.strWide hd it x t
    obtain ⟨f0, f1, f2, f3, f4, f5⟩ := hf it (by simp)
    exact wpAny_pyNext_enum_endD D he hit fun h' eb => ⟨rfl, I.turned (t' := s.toks) (fun b o hb q => eb b o hb q) f0 f1 f3 f4 f5⟩
  self := fun A i s Q E st h => let ⟨⟨_, he⟩, _⟩ := st; wpAny_pyIter_enum he h
def iEnumS (ta : TA) : TI := fun σ H R => ta σ H fun vs H1 => ∃ x : Str, vs = [.str x] ∧ R (Ies x) H1
theorem pi_enumS {X : Cx} {e : Expr} {ta : TA} {p pos tpos : Pos} {elts : List Expr} {kk : Nat} (hg : Gl X "enumerate") (hm : X.mg "enumerate" = none) (ha : PA X [e] ta) (hs : starEach [e] X.env = [(false, eval e X.env)] := by rfl) :
    PI X (.Tuple elts kk tpos) (.Call (.Name "enumerate" p) [e] [] pos) (iEnumS ta) := by
  refine ⟨fun pins s σ H R I h => ?_⟩
  refine Call_ (ld_blt I hg hm boot_enumerate (PyProof.Rows.callWith_type1 (thn (ha.run pos pins s σ H _ I h) fun us s1 ⟨vs, H1, I1, r1, q1⟩ => ?_) hs rfl))
  obtain ⟨x, ex, q⟩ := q1
  subst ex
  cases r1 with
  | cons r rr =>
    cases rr
    obtain ⟨t, rfl⟩ := r
    refine call_enumerate_str fun h' he hit hsz hk => wpAny_pyIter_enum he ?_
    have I2 : Inv X pins σ H1 { s1 with heap := h' } := I1.kept (t' := s1.toks) hk
    refine ⟨s1.heap.objs.size + 1, [s1.heap.objs.size + 1, s1.heap.objs.size], _, _, H1, rfl, I2, turn_enumS (s1.heap.objs.size + 1) s1.heap.objs.size x t, ⟨⟨.none, he⟩, hit, Nat.succ_ne_self _⟩, fun b hb => ?_, q⟩
    have e' : b = s1.heap.objs.size + 1 ∨ b = s1.heap.objs.size := by simpa using hb
    have hle : s1.heap.objs.size ≤ b := by
      rcases e' with z | z
      · rw [z]; exact Nat.le_add_right _ _
      · rw [z]; exact Nat.le_refl _
    exact I1.fpOk hle (I1.hok.fresh hle)
theorem walk_enumS {z : Str} : Walk (Ies z) z.cps.size (fun _ => True) (YPair (fun i => some (.int (i : Nat))) (fun i => (z.cps[i]?).map fun c => .str ⟨#[c]⟩)) where
  goes := fun i H hi _ => hi
  stops := fun H _ => rfl
  yields := fun i H x H' hi _ y => by
    obtain ⟨T, c, rfl, hn, rfl, hc⟩ := y
    exact ⟨T, _, _, rfl, hn, rfl, rfl, by simp [hc]⟩
theorem walk_zipT {K : PySem.W.Frag} {a b : Addr} {xs ys : List V} {n : Nat} (hn : n = min xs.length ys.length) : Walk (RZ.ItzT K a b) n (fun H => SqT K H a xs ∧ SqT K H b ys) (YPair (fun i => xs[i]?) (fun i => ys[i]?)) where
  goes := fun i H hi h => by
    have h1 : i < xs.length := by omega
    have h2 : i < ys.length := by omega
    exact ⟨xs, ys, xs[i], ys[i], h.1, h.2, List.getElem?_eq_getElem h1, List.getElem?_eq_getElem h2⟩
  stops := fun H h => ⟨xs, ys, h.1, h.2, by omega⟩
  yields := fun i H x H' hi h y => by
    obtain ⟨T, x1, y1, rfl, hn', rfl, h1, h2⟩ := y
    exact ⟨T, x1, y1, rfl, hn', rfl, h1 xs h.1, h2 ys h.2⟩

theorem b01 (k : Bool) : -(2 ^ 64) < (if k then (1 : Int) else 0) ∧ (if k then (1 : Int) else 0) < 2 ^ 64 := by cases k <;> decide
theorem mixb (z : Int) : -(2 ^ 64) < z % 2147483647 ∧ z % 2147483647 < 2 ^ 64 := by omega
theorem sizeb (c : Int) (k : Bool) : 0 ≤ (if c < 0 then -c else c) * (if k then (1 : Int) else 0) := by
  cases k
  · simp
  · simp; split <;> omega

/-! ### the mathematics of bounds -/
def Dd (lo hi : Int) (t : Nat) : Int := (hi - 1) / 2 ^ t - lo / 2 ^ t
def StepIs (lo hi : Int) (s : Nat) : Prop := s ≤ 8 ∧ Dd lo hi s ≤ 15 ∧ ∀ t, t < s → 15 < Dd lo hi t
def Bd (lo hi : Int) : Prop := 0 ≤ lo ∧ lo < hi ∧ hi ≤ 4096
def Ex (lo hi : Int) (s : Nat) : Prop := StepIs lo hi s ∧ lo / 2 ^ s * 2 ^ s = lo ∧ ((hi - 1) / 2 ^ s + 1) * 2 ^ s = hi
theorem le8 {s : Nat} (h : s ≤ 8) : s = 0 ∨ s = 1 ∨ s = 2 ∨ s = 3 ∨ s = 4 ∨ s = 5 ∨ s = 6 ∨ s = 7 ∨ s = 8 := by omega
theorem StepIs.uniq {lo hi : Int} {s t : Nat} (h : StepIs lo hi s) (k : StepIs lo hi t) : s = t := by
  rcases Nat.lt_trichotomy s t with c | c | c
  · have := k.2.2 s c; have := h.2.1; omega
  · exact c
  · have := h.2.2 t c; have := k.2.1; omega
theorem pow_pos2 (s : Nat) : (0 : Int) < 2 ^ s := Int.pow_pos (by decide)
theorem over_eq (lo hi : Int) (s : Nat) : (hi + 1 * 2 ^ s - 1) / 2 ^ s - lo / 2 ^ s = Dd lo hi s + 1 := by
  have e : hi + 1 * 2 ^ s - 1 = (hi - 1) + 1 * 2 ^ s := by omega
  rw [e, Int.add_mul_ediv_right _ _ (Int.ne_of_gt (pow_pos2 s))]
  unfold Dd
  omega
theorem first_over (lo hi : Int) (s : Nat) : lo / 2 ^ s + (Dd lo hi s + 1) = (hi - 1) / 2 ^ s + 1 := by
  unfold Dd; omega
theorem dd8 {lo hi : Int} (b : Bd lo hi) : Dd lo hi 8 ≤ 15 := by
  obtain ⟨h1, h2, h3⟩ := b
  unfold Dd
  have e : (2 : Int) ^ 8 = 256 := by decide
  rw [e]; omega
/-- going up from nought: below s all are too many -/
theorem lt8 {lo hi : Int} {s : Nat} (b : Bd lo hi) (h : 15 < Dd lo hi s) (u : s ≤ 8) : s < 8 := by
  rcases Nat.lt_or_ge s 8 with c | c
  · exact c
  · have e : s = 8 := by omega
    subst e
    have := dd8 b
    omega
/-- what a shift asks -/
theorem p8 {s : Nat} (h : s ≤ 8) : (2 : Int) ^ s ≤ 256 := by
  rcases le8 h with e | e | e | e | e | e | e | e | e <;> subst e <;> decide
theorem na {x : Int} (h0 : 0 ≤ x) (h1 : x ≤ 100000) : x.natAbs < 2 ^ 64 := by omega
theorem div_le' {x : Int} {s : Nat} (h0 : 0 ≤ x) : 0 ≤ x / 2 ^ s ∧ x / 2 ^ s ≤ x :=
  ⟨Int.ediv_nonneg h0 (Int.le_of_lt (pow_pos2 s)), Int.ediv_le_self _ h0⟩
theorem bc {lo hi : Int} {s : Nat} (b : Bd lo hi) (h : s ≤ 8) : CPow (lo / 2 ^ s) (s : Int) := by
  have := div_le' (s := s) b.1
  have := b.2
  exact ⟨by omega, by omega, na (by omega) (by omega)⟩
theorem bc2 {lo hi : Int} {s : Nat} (b : Bd lo hi) (h : StepIs lo hi s) : CPow (lo / 2 ^ s + (Dd lo hi s + 1)) (s : Int) := by
  have h8 := h.1
  obtain ⟨b1, b2, b3⟩ := b
  have := div_le' (s := s) (x := hi - 1) (by omega)
  rw [first_over]
  exact ⟨by omega, by omega, na (by omega) (by omega)⟩
theorem dd0 (n : Int) (s : Nat) : Dd 0 n s + 1 = (n - 1) / 2 ^ s + 1 := by
  unfold Dd; rw [Int.zero_ediv]; omega
theorem bc3 {n : Int} {s : Nat} (h : StepIs 0 n s) (b : Bd 0 n) : CPow (Dd 0 n s + 1) (s : Int) := by
  have h8 := h.1
  obtain ⟨b1, b2, b3⟩ := b
  have := div_le' (s := s) (x := n - 1) (by omega)
  rw [dd0]
  exact ⟨by omega, by omega, na (by omega) (by omega)⟩
def Can (lo hi : Int) (s : Nat) : Prop := lo % 2 ^ s = 0 ∧ 9 ≤ (hi - lo) / 2 ^ s
def GH (lo hi : Int) (s : Nat) : Prop := s ≤ 8 ∧ (s = 0 ∨ Can lo hi s) ∧ ∀ t, s < t → t ≤ 8 → ¬ Can lo hi t
def mn (lo hi : Int) (s : Nat) : Int := if (hi - lo) / 2 ^ s < 16 then (hi - lo) / 2 ^ s else 16
theorem cmn {lo hi : Int} {s : Nat} (b : Bd lo hi) (h : s ≤ 8) : CPow (mn lo hi s) (s : Int) := by
  obtain ⟨b1, b2, b3⟩ := b
  have := div_le' (s := s) (x := hi - lo) (by omega)
  unfold mn
  refine ⟨by omega, by omega, na ?_ ?_⟩ <;> split <;> omega
theorem bl_int {a b : Int} : decide (V.int a = V.int b) = decide (a = b) := by
  by_cases h : a = b
  · subst h; simp
  · have : ¬ (V.int a = V.int b) := fun e => h (V.int.inj e)
    simp [h, this]
theorem t2_eqv {a b c d : Int} : PyData.eqv (.tuple [.int a, .int b]) (.tuple [.int c, .int d]) = true ↔ a = c ∧ b = d := by
  simp [PyData.eqv, PyData.eqvAll]
theorem t2_no {a b c d : Int} (e : PyData.eqv (.tuple [.int a, .int b]) (.tuple [.int c, .int d]) = false) (h1 : a = c) (h2 : b = d) : False := by
  rw [t2_eqv.mpr ⟨h1, h2⟩] at e; cases e
theorem dp2 {K : PySem.W.Frag} {H : Hp} {p : Addr} {a b : Int} (h : H p = some (.tup [.int a, .int b])) : Dp K H (.ref p) (.tuple [.int a, .int b]) :=
  .tup (.of h) (.cons (.int a) (.cons (.int b) .nil))
theorem t3_eqv {a b x c d y : Int} : PyData.eqv (.tuple [.int a, .int b, .int x]) (.tuple [.int c, .int d, .int y]) = true ↔ a = c ∧ b = d ∧ x = y := by
  simp [PyData.eqv, PyData.eqvAll]
theorem dp3 {K : PySem.W.Frag} {H : Hp} {p : Addr} {a b c : Int} (h : H p = some (.tup [.int a, .int b, .int c])) : Dp K H (.ref p) (.tuple [.int a, .int b, .int c]) :=
  .tup (.of h) (.cons (.int a) (.cons (.int b) (.cons (.int c) .nil)))

/-! ### things of any kind -/
inductive Kd (H : Hp) : V → Prop where
  | non : Kd H .non
  | bl (b : Bool) : Kd H (.bl b)
  | int (i : Int) : Kd H (.int i)
  | str (x : Str) : Kd H (.str x)
  | lst {p : Addr} {xs : List V} (e : H p = some (.lst xs)) : Kd H (.ref p)
  | tup {p : Addr} {xs : List V} (e : H p = some (.tup xs)) : Kd H (.ref p)
  | dk {p : Addr} {kvs : List (Key × V)} (e : H p = some (.dK kvs)) : Kd H (.ref p)
theorem Kd.same {H H' : Hp} {v : V} (k : Kd H v) (s : Same H H') : Kd H' v := by
  cases k with
  | non => exact .non
  | bl b => exact .bl b
  | int i => exact .int i
  | str x => exact .str x
  | lst e => exact .lst (s _ _ e)
  | tup e => exact .tup (s _ _ e)
  | dk e => exact .dk (s _ _ e)
def isI : V → Bool | .int _ => true | .bl _ => true | _ => false
def isB : V → Bool | .bl _ => true | _ => false
def isS : V → Bool | .str _ => true | _ => false
theorem Kd.int? {K : PySem.W.Frag} {H : Hp} {v : V} (k : Kd H v) : ∃ t, TyX K H v t ∧ PySem.W.kitOne K t (.type "int") = some (isI v) := by
  cases k with
  | non => exact ⟨_, .base .non, kit_ty (r := false) (by decide +kernel)⟩
  | bl b => exact ⟨_, .base (.bl b), kit_ty (r := true) (by decide +kernel)⟩
  | int i => exact ⟨_, .base (.int i), kit_ty (r := true) (by decide +kernel)⟩
  | str x => exact ⟨_, .base (.str x), kit_ty (r := false) (by decide +kernel)⟩
  | lst e => exact ⟨_, .base (.lst e), kit_ty (r := false) (by decide +kernel)⟩
  | tup e => exact ⟨_, .base (.tup e), kit_ty (r := false) (by decide +kernel)⟩
  | dk e => exact ⟨_, .base (.dK e), kit_ty (r := false) (by decide +kernel)⟩
theorem Kd.bool? {K : PySem.W.Frag} {H : Hp} {v : V} (k : Kd H v) : ∃ t, TyX K H v t ∧ PySem.W.kitOne K t (.type "bool") = some (isB v) := by
  cases k with
  | non => exact ⟨_, .base .non, kit_ty (r := false) (by decide +kernel)⟩
  | bl b => exact ⟨_, .base (.bl b), kit_ty (r := true) (by decide +kernel)⟩
  | int i => exact ⟨_, .base (.int i), kit_ty (r := false) (by decide +kernel)⟩
  | str x => exact ⟨_, .base (.str x), kit_ty (r := false) (by decide +kernel)⟩
  | lst e => exact ⟨_, .base (.lst e), kit_ty (r := false) (by decide +kernel)⟩
  | tup e => exact ⟨_, .base (.tup e), kit_ty (r := false) (by decide +kernel)⟩
  | dk e => exact ⟨_, .base (.dK e), kit_ty (r := false) (by decide +kernel)⟩
theorem Kd.str? {K : PySem.W.Frag} {H : Hp} {v : V} (k : Kd H v) : ∃ t, TyX K H v t ∧ PySem.W.kitOne K t (.type "str") = some (isS v) := by
  cases k with
  | non => exact ⟨_, .base .non, kit_ty (r := false) (by decide +kernel)⟩
  | bl b => exact ⟨_, .base (.bl b), kit_ty (r := false) (by decide +kernel)⟩
  | int i => exact ⟨_, .base (.int i), kit_ty (r := false) (by decide +kernel)⟩
  | str x => exact ⟨_, .base (.str x), kit_ty (r := true) (by decide +kernel)⟩
  | lst e => exact ⟨_, .base (.lst e), kit_ty (r := false) (by decide +kernel)⟩
  | tup e => exact ⟨_, .base (.tup e), kit_ty (r := false) (by decide +kernel)⟩
  | dk e => exact ⟨_, .base (.dK e), kit_ty (r := false) (by decide +kernel)⟩
/-- it is no tuple -/
inductive NoT (H : Hp) : V → Prop where
  | non : NoT H .non
  | bl (b : Bool) : NoT H (.bl b)
  | int (i : Int) : NoT H (.int i)
  | str (x : Str) : NoT H (.str x)
  | lst {p : Addr} {xs : List V} (e : H p = some (.lst xs)) : NoT H (.ref p)
  | dk {p : Addr} {kvs : List (Key × V)} (e : H p = some (.dK kvs)) : NoT H (.ref p)
theorem NoT.tup? {K : PySem.W.Frag} {H : Hp} {v : V} (k : NoT H v) : ∃ t, TyX K H v t ∧ PySem.W.kitOne K t (.type "tuple") = some false := by
  cases k with
  | non => exact ⟨_, .base .non, kit_ty (by decide +kernel)⟩
  | bl b => exact ⟨_, .base (.bl b), kit_ty (by decide +kernel)⟩
  | int i => exact ⟨_, .base (.int i), kit_ty (by decide +kernel)⟩
  | str x => exact ⟨_, .base (.str x), kit_ty (by decide +kernel)⟩
  | lst e => exact ⟨_, .base (.lst e), kit_ty (by decide +kernel)⟩
  | dk e => exact ⟨_, .base (.dK e), kit_ty (by decide +kernel)⟩
/-! ### texts of rights -/
def RT : Str := Str.ofString "rwlsnfxco"
def code (k : Nat) : Nat := [114, 119, 108, 115, 110, 102, 120, 99, 111].getD k 0
def one (c : Nat) : Str := ⟨#[c]⟩
theorem RT_size : RT.cps.size = 9 := by decide +kernel
theorem RT_get : ∀ k, k < 9 → RT.cps[k]? = some (code k) := by decide +kernel
theorem code_inj : ∀ j, j < 9 → ∀ k, k < 9 → code j = code k → j = k := by decide +kernel
def rcs (p : Nat → Bool) (i : Nat) : List Str := ((List.range i).filter p).map fun k => one (code k)
def rtx (p : Nat → Bool) : Str := Txt.join (Str.ofString "") (rcs p 9)
theorem joinL_nil : ∀ l : List (List Nat), TL.joinL [] l = l.flatten
  | [] => rfl
  | [p] => by simp [TL.joinL]
  | p :: q :: r => by
    show p ++ ([] ++ TL.joinL [] (q :: r)) = _
    rw [joinL_nil (q :: r)]; simp
theorem rtx_codes (p : Nat → Bool) : (rtx p).cps.toList = ((List.range 9).filter p).map code := by
  unfold rtx
  rw [TL.join_eq]
  show TL.tl (Str.join _ _) = _
  rw [TL.tl_join]
  have e : TL.tl (Str.ofString "") = [] := by decide +kernel
  rw [e, joinL_nil]
  unfold rcs
  generalize (List.range 9).filter p = l
  induction l with
  | nil => rfl
  | cons x r ih =>
    simp only [List.map_cons, List.flatten_cons] at *
    rw [ih]; rfl
theorem rtx_mem (p : Nat → Bool) {k : Nat} (hk : k < 9) : code k ∈ (rtx p).cps.toList ↔ p k = true := by
  rw [rtx_codes, List.mem_map]
  constructor
  · rintro ⟨j, hj, e⟩
    obtain ⟨h1, h2⟩ := List.mem_filter.mp hj
    have : j = k := code_inj j (List.mem_range.mp h1) k hk e
    subst this; exact h2
  · intro h
    exact ⟨k, List.mem_filter.mpr ⟨List.mem_range.mpr hk, h⟩, rfl⟩
theorem rcs_succ (p : Nat → Bool) (i : Nat) : rcs p (i + 1) = rcs p i ++ (if p i = true then [one (code i)] else []) := by
  unfold rcs
  rw [List.range_succ, List.filter_append, List.map_append]
  congr 1
  by_cases h : p i = true
  · simp [h]
  · simp [h]
theorem rcs_len (p : Nat → Bool) (i : Nat) : (rcs p i).length ≤ i := by
  unfold rcs
  rw [List.length_map]
  exact Nat.le_trans (List.length_filter_le _ _) (by rw [List.length_range]; exact Nat.le_refl _)
theorem rcs_one (p : Nat → Bool) (i : Nat) : ((rcs p i).map (·.length)).sum = (rcs p i).length := by
  unfold rcs
  generalize (List.range i).filter p = l
  induction l with
  | nil => rfl
  | cons x r ih =>
    simp only [List.map_cons, List.sum_cons, List.length_cons] at *
    rw [ih]
    show 1 + _ = _
    omega
theorem rcs_fit (p : Nat → Bool) : ((rcs p 9).map (·.length)).sum + (rcs p 9).length * (Str.ofString "").length ≤ 16777216 := by
  have e : (Str.ofString "").length = 0 := by decide +kernel
  rw [e, rcs_one]
  have := rcs_len p 9
  omega
theorem szn {n : Nat} (h : n < 1000) : n < sizeLine := small1000 (Nat.le_of_lt h)
/-- the right k is in a text -/
def hasR (r : Str) (k : Nat) : Bool := decide (code k ∈ r.cps.toList)
def hasG (r g : Str) : Bool := g.cps.toList.any fun c => decide (c ∈ r.cps.toList)
def G0 : Str := Str.ofString "rwlsn"
def G1 : Str := Str.ofString "x"
def G2 : Str := Str.ofString "co"
def OneW (r : Str) : Prop := ([G0, G1, G2].filter (hasG r)).length ≤ 1
def mask (p : Nat → Bool) (i : Nat) : List Int := ((List.range i).filter p).map fun k => (2 : Int) ^ k
def maskOf (r : Str) : Int := (mask (hasR r) 9).sum
theorem mask_succ (p : Nat → Bool) (i : Nat) : mask p (i + 1) = mask p i ++ (if p i = true then [(2 : Int) ^ i] else []) := by
  unfold mask
  rw [List.range_succ, List.filter_append, List.map_append]
  congr 1
  by_cases h : p i = true
  · simp [h]
  · simp [h]
theorem mask_len (p : Nat → Bool) (i : Nat) : (mask p i).length ≤ i := by
  unfold mask
  rw [List.length_map]
  exact Nat.le_trans (List.length_filter_le _ _) (by rw [List.length_range]; exact Nat.le_refl _)
theorem i0 (i : Nat) : (0 : Int) + (i : Int) = (i : Int) := by omega
theorem take_any {g r : Str} {i : Nat} (hi : i < g.cps.size) : (g.cps.toList.take (i + 1)).map (fun c => decide (c ∈ r.cps.toList)) = (g.cps.toList.take i).map (fun c => decide (c ∈ r.cps.toList)) ++ [decide (g.cps[i] ∈ r.cps.toList)] := by
  rw [List.take_add_one, List.map_append]
  congr 1
  simp [hi]
theorem wipe_in {σ : L2.St} {i : Nat} : ∀ {vs : List Nat}, i ∈ vs → (wipe σ vs)[i]? = if i < σ.length then some none else none
  | [], h => by cases h
  | a :: vs, h => by
    show ((wipe σ vs).set a none)[i]? = _
    by_cases e : a = i
    · subst e
      rw [List.getElem?_set_self']
      by_cases l : a < σ.length
      · rw [if_pos l, List.getElem?_eq_getElem (by rw [wipe_length]; exact l)]; rfl
      · rw [if_neg l, List.getElem?_eq_none (by rw [wipe_length]; omega)]; rfl
    · rw [List.getElem?_set_ne e]
      exact wipe_in (by rcases List.mem_cons.mp h with q | q; exact absurd q.symm e; exact q)
theorem wipe_set {σ : L2.St} {vs : List Nat} {j : Nat} {v : Option V} (h : j ∈ vs) : wipe (σ.set j v) vs = wipe σ vs := by
  refine List.ext_getElem? fun i => ?_
  by_cases c : i ∈ vs
  · rw [wipe_in c, wipe_in c, List.length_set]
  · have n : j ≠ i := fun e => c (e ▸ h)
    rw [wipe_out c, wipe_out c, List.getElem?_set_ne n]
theorem wipe_wipe {σ : L2.St} {vs : List Nat} : wipe (wipe σ vs) vs = wipe σ vs := by
  refine List.ext_getElem? fun i => ?_
  by_cases c : i ∈ vs
  · rw [wipe_in c, wipe_in c, wipe_length]
  · rw [wipe_out c]
theorem wp1 {σ : L2.St} {vs : List Nat} {j : Nat} {v : Option V} (h : j ∈ vs) : wipe ((wipe σ vs).set j v) vs = wipe σ vs := by rw [wipe_set h, wipe_wipe]
theorem wp2 {σ : L2.St} {vs : List Nat} {j k : Nat} {v u : Option V} (h : j ∈ vs) (h2 : k ∈ vs) : wipe (((wipe σ vs).set j v).set k u) vs = wipe σ vs := by rw [wipe_set h2, wipe_set h, wipe_wipe]
def bitp (m : Int) : Nat → Bool := fun k => decide (m / 2 ^ k % 2 = 1)
/-- what bits tell -/
def fAt (b : Int) : Int := b / 2 ^ 0 % 2 ^ 12
def fFirst (b : Int) : Int := b / 2 ^ 12 % 2 ^ 12
def fCnt (b : Int) : Int := b / 2 ^ 24 % 2 ^ 4 + 1
def fStep (b : Int) : Int := b / 2 ^ 28 % 2 ^ 4
def fRts (b : Int) : Int := b / 2 ^ 32 % 2 ^ 9
def fKind (b : Int) : Int := b / 2 ^ 41 % 2 ^ 4
def Tells (b : Int) : Prop := fStep b ≤ 8 ∧ (fStep b = 0 ∨ 9 ≤ fCnt b) ∧ (fFirst b + fCnt b) * 2 ^ (fStep b).toNat ≤ 4096
theorem fb (b : Int) : 0 ≤ fStep b ∧ fStep b ≤ 15 ∧ 1 ≤ fCnt b ∧ fCnt b ≤ 16 ∧ 0 ≤ fFirst b ∧ fFirst b ≤ 4095 := by
  unfold fStep fCnt fFirst; omega
theorem cpw {z s : Int} (h0 : 0 ≤ z) (h1 : z ≤ 10000000000000) (h2 : 0 ≤ s) (h3 : s ≤ 1000) : CPow z s := ⟨h2, by omega, by omega⟩
/-- the fields of a lawful marked word -/
def F5 (xs : List V) : Prop := ∃ (lo hi at' : Int) (r : Str) (kd : Int), xs = [.int lo, .int hi, .int at', .str r, .int kd] ∧ Bd lo hi ∧ (∃ s, Ex lo hi s) ∧ 0 ≤ at' ∧ at' ≤ 4095 ∧ 0 ≤ kd ∧ kd ≤ 15 ∧ r = rtx (hasR r) ∧ OneW r
def wl (a b c d e f : Int) : List Int := [a * 2 ^ 0, b * 2 ^ 12, c * 2 ^ 24, d * 2 ^ 28, e * 2 ^ 32, f * 2 ^ 41]
def wbits (lo hi at' mr kd : Int) (s : Nat) : Int := (wl at' (lo / 2 ^ s) (Dd lo hi s + 1 - 1) s mr kd).sum
def BW (z : Int) : Prop := 0 ≤ z ∧ z ≤ 10000000000000
theorem six_at {K : PySem.W.Frag} {pA pF pC pS pR pK : Addr} {a b c d e f : Int} {i : Nat} {x1 y1 : V} (hi : i < 6) (hx : [V.ref pA, .ref pF, .ref pC, .ref pS, .ref pR, .ref pK][i]? = some x1) (hy : [V.int a, .int b, .int c, .int d, .int e, .int f][i]? = some y1)
    (sA : ∀ H, SqT K H pA [.int 0, .int 12]) (sF : ∀ H, SqT K H pF [.int 12, .int 12]) (sC : ∀ H, SqT K H pC [.int 24, .int 4]) (sS : ∀ H, SqT K H pS [.int 28, .int 4]) (sR : ∀ H, SqT K H pR [.int 32, .int 9]) (sK : ∀ H, SqT K H pK [.int 41, .int 4])
    (ba : BW a) (bb : BW b) (bc : BW c) (bd : BW d) (be : BW e) (bf : BW f) :
    ∃ (p : Addr) (lo mn : Nat) (z : Int), x1 = .ref p ∧ (∀ H, SqT K H p [.int lo, .int mn]) ∧ lo ≤ 100 ∧ y1 = .int z ∧ BW z ∧ (wl a b c d e f).take (i + 1) = (wl a b c d e f).take i ++ [z * 2 ^ lo] := by
  have six : i = 0 ∨ i = 1 ∨ i = 2 ∨ i = 3 ∨ i = 4 ∨ i = 5 := by omega
  rcases six with h | h | h | h | h | h <;> subst h
  · exact ⟨pA, 0, 12, a, (Option.some.inj hx).symm, sA, by decide, (Option.some.inj hy).symm, ba, rfl⟩
  · exact ⟨pF, 12, 12, b, (Option.some.inj hx).symm, sF, by decide, (Option.some.inj hy).symm, bb, rfl⟩
  · exact ⟨pC, 24, 4, c, (Option.some.inj hx).symm, sC, by decide, (Option.some.inj hy).symm, bc, rfl⟩
  · exact ⟨pS, 28, 4, d, (Option.some.inj hx).symm, sS, by decide, (Option.some.inj hy).symm, bd, rfl⟩
  · exact ⟨pR, 32, 9, e, (Option.some.inj hx).symm, sR, by decide, (Option.some.inj hy).symm, be, rfl⟩
  · exact ⟨pK, 41, 4, f, (Option.some.inj hx).symm, sK, by decide, (Option.some.inj hy).symm, bf, rfl⟩
theorem mask_b (p : Nat → Bool) : ∀ i, i ≤ 9 → 0 ≤ (mask p i).sum ∧ (mask p i).sum < 2 ^ i
  | 0, _ => by unfold mask; simp
  | i + 1, h => by
    have ih := mask_b p i (by omega)
    rw [mask_succ, List.sum_append]
    have e : (2 : Int) ^ (i + 1) = 2 * 2 ^ i := by rw [Int.pow_succ]; omega
    rw [e]
    by_cases c : p i = true
    · simp only [if_pos c, List.sum_cons, List.sum_nil]; omega
    · simp only [if_neg c, List.sum_nil]; omega
theorem maskOf_b (r : Str) : 0 ≤ maskOf r ∧ maskOf r < 512 := by
  have := mask_b (hasR r) 9 (Nat.le_refl _)
  unfold maskOf; omega
instance (b : Int) : Decidable (Tells b) := by unfold Tells; infer_instance

/-! ### bits and fields there and back -/
theorem wb_eq (lo hi at' mr kd : Int) (s : Nat) : wbits lo hi at' mr kd s = at' + lo / 2 ^ s * 4096 + Dd lo hi s * 16777216 + (s : Int) * 268435456 + mr * 4294967296 + kd * 2199023255552 := by
  unfold wbits wl
  simp only [List.sum_cons, List.sum_nil]
  omega
theorem bits6 {a F D s m k : Int} (a0 : 0 ≤ a) (a1 : a ≤ 4095) (F0 : 0 ≤ F) (F1 : F ≤ 4095) (D0 : 0 ≤ D) (D1 : D ≤ 15) (s0 : 0 ≤ s) (s1 : s ≤ 8) (m0 : 0 ≤ m) (m1 : m < 512) (k0 : 0 ≤ k) (k1 : k ≤ 15) :
    fStep (a + F * 4096 + D * 16777216 + s * 268435456 + m * 4294967296 + k * 2199023255552) = s ∧ fFirst (a + F * 4096 + D * 16777216 + s * 268435456 + m * 4294967296 + k * 2199023255552) = F ∧ fCnt (a + F * 4096 + D * 16777216 + s * 268435456 + m * 4294967296 + k * 2199023255552) = D + 1 ∧
    fAt (a + F * 4096 + D * 16777216 + s * 268435456 + m * 4294967296 + k * 2199023255552) = a ∧ fRts (a + F * 4096 + D * 16777216 + s * 268435456 + m * 4294967296 + k * 2199023255552) = m ∧ fKind (a + F * 4096 + D * 16777216 + s * 268435456 + m * 4294967296 + k * 2199023255552) = k := by
  unfold fStep fFirst fCnt fAt fRts fKind
  rw [show (2 : Int) ^ 0 = 1 by decide, show (2 : Int) ^ 4 = 16 by decide, show (2 : Int) ^ 9 = 512 by decide, show (2 : Int) ^ 12 = 4096 by decide, show (2 : Int) ^ 24 = 16777216 by decide, show (2 : Int) ^ 28 = 268435456 by decide, show (2 : Int) ^ 32 = 4294967296 by decide, show (2 : Int) ^ 41 = 2199023255552 by decide]
  generalize hb : a + F * 4096 + D * 16777216 + s * 268435456 + m * 4294967296 + k * 2199023255552 = b
  have q1 : b / 4096 = F + 4096 * (D + 16 * (s + 16 * (m + 512 * k))) := by omega
  have q2 : b / 16777216 = D + 16 * (s + 16 * (m + 512 * k)) := by omega
  have q3 : b / 268435456 = s + 16 * (m + 512 * k) := by omega
  have q4 : b / 4294967296 = m + 512 * k := by omega
  have q5 : b / 2199023255552 = k := by omega
  rw [q1, q2, q3, q4, q5]
  refine ⟨?_, ?_, ?_, ?_, ?_, ?_⟩ <;> omega
theorem wb_dec {lo hi at' mr kd : Int} {s : Nat} (b : Bd lo hi) (e : Ex lo hi s) (a0 : 0 ≤ at') (a1 : at' ≤ 4095) (m0 : 0 ≤ mr) (m1 : mr < 512) (k0 : 0 ≤ kd) (k1 : kd ≤ 15) :
    0 ≤ wbits lo hi at' mr kd s ∧ Tells (wbits lo hi at' mr kd s) ∧ fFirst (wbits lo hi at' mr kd s) * 2 ^ (fStep (wbits lo hi at' mr kd s)).toNat = lo ∧ (fFirst (wbits lo hi at' mr kd s) + fCnt (wbits lo hi at' mr kd s)) * 2 ^ (fStep (wbits lo hi at' mr kd s)).toNat = hi ∧
    fAt (wbits lo hi at' mr kd s) = at' ∧ fRts (wbits lo hi at' mr kd s) = mr ∧ fKind (wbits lo hi at' mr kd s) = kd := by
  obtain ⟨⟨s8, e1, e2⟩, e3, e4⟩ := e
  obtain ⟨b1, b2, b3⟩ := b
  have dl := div_le' (s := s) b1
  have d0 : 0 ≤ Dd lo hi s := by
    unfold Dd
    have := Int.ediv_le_ediv (pow_pos2 s) (show lo ≤ hi - 1 by omega)
    omega
  have fo := first_over lo hi s
  have h9 : s = 0 ∨ 9 ≤ Dd lo hi s + 1 := by
    rcases Nat.eq_zero_or_pos s with c | c
    · exact .inl c
    · right
      have := e2 (s - 1) (by omega)
      clear e2 fo
      unfold Dd at *
      rcases le8 s8 with e | e | e | e | e | e | e | e | e <;> subst e <;> first | omega | (simp at *; omega)
  have ed : Dd lo hi s + 1 = (hi - 1) / 2 ^ s + 1 - lo / 2 ^ s := by omega
  rw [wb_eq]
  have eF : lo / 2 ^ s ≤ 4095 := by omega
  generalize hF : lo / 2 ^ s = F at *
  generalize hD : Dd lo hi s = D at *
  have s0 : (0 : Int) ≤ (s : Int) ∧ (s : Int) ≤ 8 := by omega
  have F0 : 0 ≤ F := dl.1
  obtain ⟨x1, x2, x3, x4, x5, x6⟩ := bits6 (a := at') (F := F) (D := D) (s := (s : Int)) (m := mr) (k := kd) a0 a1 F0 eF d0 e1 s0.1 s0.2 m0 m1 k0 k1
  have e5 : (F + (D + 1)) * 2 ^ s = hi := by rw [fo]; exact e4
  refine ⟨by omega, ⟨?_, ?_, ?_⟩, ?_, ?_, x4, x5, x6⟩
  · rw [x1]; omega
  · rw [x1, x3]; omega
  · rw [x1, x2, x3]
    show (F + (D + 1)) * 2 ^ s ≤ 4096
    rw [e5]; exact b3
  · rw [x1, x2]; exact e3
  · rw [x1, x2, x3]; exact e5
theorem R_ok : Str.ofString "r" = rtx (hasR (Str.ofString "r")) := by decide +kernel
theorem R_one : OneW (Str.ofString "r") := by unfold OneW; decide +kernel
theorem R_rtx : rtx (bitp (maskOf (Str.ofString "r"))) = Str.ofString "r" := by decide +kernel
theorem dp5 {K : PySem.W.Frag} {H : Hp} {p : Addr} {a b c d : Int} {r : Str} (h : H p = some (.tup [.int a, .int b, .int c, .str r, .int d])) : Dp K H (.ref p) (.tuple [.int a, .int b, .int c, .str r, .int d]) :=
  .tup (.of h) (.cons (.int a) (.cons (.int b) (.cons (.int c) (.cons (.str r) (.cons (.int d) .nil)))))
theorem d5_sh (a b c d : Int) (r : Str) (h : PyData.canLay0 (.str r) = true) : SeqAt.shaped (.tuple [.int a, .int b, .int c, .str r, .int d]) = true := by
  have e : PyData.canLay0 (.tuple [.int a, .int b, .int c, .str r, .int d]) = true := by
    simp only [PyData.canLay0, PyData.canLayAll0, Bool.true_and, Bool.and_true] at *
    exact h
  unfold SeqAt.shaped
  rw [e]
  simp [PyData.depth, PyData.depthAll]
theorem d5_refl (a b c d : Int) (r : Str) : PyData.eqv (.tuple [.int a, .int b, .int c, .str r, .int d]) (.tuple [.int a, .int b, .int c, .str r, .int d]) = true := by
  simp [PyData.eqv, PyData.eqvAll]

theorem mt_lcountB {X : Cx} : MtR X "list.count" (fun x xs H Q => ∃ (p : Addr) (bs : List Bool), x = .ref p ∧ xs = [.bl true] ∧ SqL X.K H p (bs.map V.bl) ∧ Q (.int ((bs.filter id).length : Nat)) H) := by
  intro pins s σ H x xs v us Q I rx rxs h
  obtain ⟨p, bs, rfl, rfl, hs, q⟩ := h
  cases rx
  obtain ⟨u, rfl, ru⟩ := rxs.one
  obtain rfl : u = Value.bool true := ru
  obtain ⟨its, rv, ⟨⟨cls, dd, data, sl⟩, n, ho, hc, hdn, hd⟩, hlen⟩ := I.list hs
  simp only at hc hd
  subst hc hd
  have hb := Vals.bls rv
  subst hb
  refine call_meets PySem.F.slot_list_count ⟨_, ho, rfl⟩ PySem.F.entry_list_count (PySem.F.args_list_count_2 _ _)
    (SeqAt.list_countAt p (bs.map Value.bool).toArray n dd sl (.bool true) (eqU (.bl true))) ⟨ho, fun y hy => mem_eqAt (x := .bl true) rfl rfl rv (by simp [flatV]) y (by simpa using hy), ?_⟩
  have ec : (bs.map Value.bool).toArray.toList.countP (eqU (.bl true)) = (bs.filter id).length := by
    show (bs.map Value.bool).countP (eqU (.bl true)) = _
    rw [List.countP_map, List.countP_eq_length_filter]
    congr 1
    refine List.filter_congr fun b _ => ?_
    cases b <;> rfl
  refine ⟨.int ((bs.filter id).length : Nat), H, I.tok _, ⟨s.toks, ?_⟩, q⟩
  show Value.int (((bs.map Value.bool).toArray.toList.countP (eqU (.bl true)) : Nat) : Int) s.toks = _
  rw [ec]
/-- bits that a marked word may have -/
def Law (b : Int) : Prop := Tells b ∧ OneW (rtx (bitp (fRts b)))
def W45 (b : Int) : Prop := 0 ≤ b ∧ b < 35184372088832

theorem bit_lift (b : Int) {i : Nat} (h : i < 9) : b / 2 ^ (32 + i) % 2 = fRts b / 2 ^ i % 2 := by
  unfold fRts
  rw [show (2 : Int) ^ 32 = 4294967296 by decide, show (2 : Int) ^ 9 = 512 by decide]
  rcases le8 (show i ≤ 8 by omega) with e | e | e | e | e | e | e | e | e <;> subst e
  · rw [show (2 : Int) ^ (32 + 0) = 4294967296 by decide, show (2 : Int) ^ 0 = 1 by decide]; omega
  · rw [show (2 : Int) ^ (32 + 1) = 8589934592 by decide, show (2 : Int) ^ 1 = 2 by decide]; omega
  · rw [show (2 : Int) ^ (32 + 2) = 17179869184 by decide, show (2 : Int) ^ 2 = 4 by decide]; omega
  · rw [show (2 : Int) ^ (32 + 3) = 34359738368 by decide, show (2 : Int) ^ 3 = 8 by decide]; omega
  · rw [show (2 : Int) ^ (32 + 4) = 68719476736 by decide, show (2 : Int) ^ 4 = 16 by decide]; omega
  · rw [show (2 : Int) ^ (32 + 5) = 137438953472 by decide, show (2 : Int) ^ 5 = 32 by decide]; omega
  · rw [show (2 : Int) ^ (32 + 6) = 274877906944 by decide, show (2 : Int) ^ 6 = 64 by decide]; omega
  · rw [show (2 : Int) ^ (32 + 7) = 549755813888 by decide, show (2 : Int) ^ 7 = 128 by decide]; omega
  · rw [show (2 : Int) ^ (32 + 8) = 1099511627776 by decide, show (2 : Int) ^ 8 = 256 by decide]; omega

theorem rtx_len (p : Nat → Bool) : (rtx p).cps.size ≤ 9 := by
  have e : (rtx p).cps.size = (rtx p).cps.toList.length := by simp
  rw [e, rtx_codes, List.length_map]
  exact Nat.le_trans (List.length_filter_le _ _) (by decide)
theorem code_ok : ∀ k, k < 9 → PyData.canLay0 (.str (one (code k))) = true := by decide +kernel
theorem rtx_ok (p : Nat → Bool) {c : Nat} (h : c ∈ (rtx p).cps.toList) : PyData.canLay0 (.str (one c)) = true := by
  rw [rtx_codes] at h
  obtain ⟨k, hk, rfl⟩ := List.mem_map.mp h
  exact code_ok k (List.mem_range.mp (List.mem_filter.mp hk).1)
theorem strs_lay : ∀ {l : List Nat}, (∀ c ∈ l, PyData.canLay0 (.str (one c)) = true) → PyData.canLayAll0 (l.map fun c => .str (one c)) = true
  | [], _ => by simp [PyData.canLayAll0]
  | c :: l, h => by
    have ih := strs_lay (l := l) fun x hx => h x (List.mem_cons_of_mem _ hx)
    simp only [List.map_cons, PyData.canLayAll0, ih, h c (List.mem_cons_self ..), Bool.and_self]
theorem strs_depth : ∀ l : List Nat, PyData.depthAll (l.map fun c => .str (one c)) = 0
  | [] => by simp [PyData.depthAll]
  | c :: l => by simp only [List.map_cons, PyData.depthAll, PyData.depth, strs_depth l]; rfl
theorem strs_shape {l : List Nat} (h : ∀ c ∈ l, PyData.canLay0 (.str (one c)) = true) : SeqAt.shaped (.list (l.map fun c => .str (one c))) = true := by
  have e : PyData.canLay0 (.list (l.map fun c => .str (one c))) = true := by
    simp only [PyData.canLay0]; exact strs_lay h
  unfold SeqAt.shaped
  rw [e]
  simp only [PyData.depth, strs_depth]; rfl
theorem dp_strs {K : PySem.W.Frag} {H : Hp} : ∀ l : List Nat, DpAll K H (l.map fun c => V.str (one c)) (l.map fun c => .str (one c))
  | [] => .nil
  | c :: l => .cons (.str (one c)) (dp_strs l)
theorem strs_eqv (l : List Nat) : PyData.eqv (.list (l.map fun c => .str (one c))) (.list []) = l.isEmpty := by
  cases l with
  | nil => rfl
  | cons c l => simp [PyData.eqv, PyData.eqvAll]
theorem hasG_iff (r g : Str) : (!(r.cps.toList.filter fun c => decide (c ∈ g.cps.toList)).isEmpty) = hasG r g := by
  unfold hasG
  rw [Bool.eq_iff_iff, List.any_eq_true]
  constructor
  · intro h
    cases e : r.cps.toList.filter fun c => decide (c ∈ g.cps.toList) with
    | nil => rw [e] at h; cases h
    | cons c l =>
      have m : c ∈ r.cps.toList.filter fun c => decide (c ∈ g.cps.toList) := by rw [e]; exact List.mem_cons_self ..
      obtain ⟨m1, m2⟩ := List.mem_filter.mp m
      exact ⟨c, of_decide_eq_true m2, decide_eq_true m1⟩
  · rintro ⟨c, m1, m2⟩
    have m : c ∈ r.cps.toList.filter fun c => decide (c ∈ g.cps.toList) := List.mem_filter.mpr ⟨of_decide_eq_true m2, decide_eq_true m1⟩
    cases e : r.cps.toList.filter fun c => decide (c ∈ g.cps.toList) with
    | nil => rw [e] at m; cases m
    | cons c l => rfl

/-! ### words and their fields there and back -/
theorem tw_eqv {m n : Bool} {a b : Int} : PyData.eqv (.tuple [.bool m, .int a]) (.tuple [.bool n, .int b]) = true ↔ m = n ∧ a = b := by
  simp [PyData.eqv, PyData.eqvAll]
theorem tw_no {m : Bool} {a b : Int} (e : PyData.eqv (.tuple [.bool m, .int a]) (.tuple [.bool m, .int b]) = false) (h : a = b) : False := by
  rw [tw_eqv.mpr ⟨rfl, h⟩] at e; cases e
theorem dpw {K : PySem.W.Frag} {H : Hp} {p : Addr} {m : Bool} {a : Int} (h : H p = some (.tup [.bl m, .int a])) : Dp K H (.ref p) (.tuple [.bool m, .int a]) :=
  .tup (.of h) (.cons (.bl m) (.cons (.int a) .nil))
theorem d5_eqv {a b c d a' b' c' d' : Int} {r r' : Str} : PyData.eqv (.tuple [.int a, .int b, .int c, .str r, .int d]) (.tuple [.int a', .int b', .int c', .str r', .int d']) = true ↔ a = a' ∧ b = b' ∧ c = c' ∧ r = r' ∧ d = d' := by
  simp [PyData.eqv, PyData.eqvAll]
theorem d5_no {a b c d : Int} {r : Str} (e : PyData.eqv (.tuple [.int a, .int b, .int c, .str r, .int d]) (.tuple [.int a, .int b, .int c, .str r, .int d]) = false) : False := by
  rw [d5_refl] at e; cases e
theorem rtx_congr {p q : Nat → Bool} (h : ∀ k, k < 9 → p k = q k) : rtx p = rtx q := by
  unfold rtx rcs
  rw [List.filter_congr fun k hk => h k (List.mem_range.mp hk)]
theorem hasR_rtx (p : Nat → Bool) {k : Nat} (h : k < 9) : hasR (rtx p) k = p k := by
  unfold hasR
  rw [Bool.eq_iff_iff, decide_eq_true_iff]
  exact rtx_mem p h
theorem rtx_self (p : Nat → Bool) : rtx p = rtx (hasR (rtx p)) := rtx_congr fun k h => (hasR_rtx p h).symm
theorem mask_congr {p q : Nat → Bool} (h : ∀ k, k < 9 → p k = q k) : mask p 9 = mask q 9 := by
  unfold mask
  rw [List.filter_congr fun k hk => h k (List.mem_range.mp hk)]
theorem maskOf_rtx (p : Nat → Bool) : maskOf (rtx p) = (mask p 9).sum := by
  unfold maskOf
  rw [mask_congr fun k h => hasR_rtx p h]
theorem mask512 : ∀ m : Fin 512, (mask (bitp (m.val : Int)) 9).sum = (m.val : Int) := by decide +kernel
theorem mask_bitp {m : Int} (h0 : 0 ≤ m) (h1 : m < 512) : (mask (bitp m) 9).sum = m := by
  have h := mask512 ⟨m.toNat, by omega⟩
  have e : ((m.toNat : Nat) : Int) = m := by omega
  rw [e] at h
  exact h
theorem rtx_can (p : Nat → Bool) : PyData.canLay0 (.str (rtx p)) = true := by
  simp only [PyData.canLay0, PyData.strOk]
  rw [Array.all_eq_true_iff_forall_mem]
  intro c hc
  have h := rtx_ok p (c := c) (by simpa using hc)
  simp only [PyData.canLay0, PyData.strOk] at h
  simpa [one] using h
structure WF (b lo hi at' : Int) (p : Nat → Bool) (kd : Int) (s : Nat) : Prop where
  bd : Bd lo hi
  ex : Ex lo hi s
  a0 : 0 ≤ at'
  a1 : at' ≤ 4095
  k0 : 0 ≤ kd
  k1 : kd ≤ 15
  ow : OneW (rtx p)
  wb : wbits lo hi at' (maskOf (rtx p)) kd s = b
theorem WF.f5 {b lo hi at' kd : Int} {p : Nat → Bool} {s : Nat} (W : WF b lo hi at' p kd s) : F5 [.int lo, .int hi, .int at', .str (rtx p), .int kd] :=
  ⟨lo, hi, at', _, kd, rfl, W.bd, ⟨s, W.ex⟩, W.a0, W.a1, W.k0, W.k1, rtx_self p, W.ow⟩
theorem wf_of {b : Int} (w : W45 b) (L : Law b) : ∃ (lo hi at' : Int) (p : Nat → Bool) (kd : Int) (s : Nat), [V.int (fFirst b * 2 ^ (fStep b).toNat), .int ((fFirst b + fCnt b) * 2 ^ (fStep b).toNat), .int (fAt b), .str (rtx (bitp (fRts b))), .int (fKind b)] = [.int lo, .int hi, .int at', .str (rtx p), .int kd] ∧ WF b lo hi at' p kd s := by
  obtain ⟨⟨t1, t2, t3⟩, ow⟩ := L
  obtain ⟨w0, w1⟩ := w
  have f := fb b
  have r0 : 0 ≤ fRts b := Int.emod_nonneg _ (by decide)
  have r1 : fRts b < 512 := Int.emod_lt_of_pos _ (by decide)
  have a0 : 0 ≤ fAt b := Int.emod_nonneg _ (by decide)
  have a1 : fAt b < 4096 := Int.emod_lt_of_pos _ (by decide)
  have k0 : 0 ≤ fKind b := Int.emod_nonneg _ (by decide)
  have k1 : fKind b < 16 := Int.emod_lt_of_pos _ (by decide)
  have sum : b = fAt b + fFirst b * 4096 + (fCnt b - 1) * 16777216 + fStep b * 268435456 + fRts b * 4294967296 + fKind b * 2199023255552 := by
    clear t1 t2 t3 ow f r0 r1 a0 a1 k0 k1
    unfold fAt fFirst fCnt fStep fRts fKind
    rw [show (2 : Int) ^ 0 = 1 by decide, show (2 : Int) ^ 4 = 16 by decide, show (2 : Int) ^ 9 = 512 by decide, show (2 : Int) ^ 12 = 4096 by decide, show (2 : Int) ^ 24 = 16777216 by decide, show (2 : Int) ^ 28 = 268435456 by decide, show (2 : Int) ^ 32 = 4294967296 by decide, show (2 : Int) ^ 41 = 2199023255552 by decide]
    omega
  obtain ⟨s, es⟩ : ∃ s : Nat, fStep b = (s : Int) := ⟨(fStep b).toNat, by omega⟩
  rw [es] at t1 t2 t3 sum ⊢
  have e1 : ((s : Int)).toNat = s := rfl
  rw [e1] at t3 ⊢
  generalize fFirst b = F at *
  generalize fCnt b = C at *
  have s8 : s ≤ 8 := by omega
  have core : Bd (F * 2 ^ s) ((F + C) * 2 ^ s) ∧ Ex (F * 2 ^ s) ((F + C) * 2 ^ s) s ∧ F * 2 ^ s / 2 ^ s = F ∧ Dd (F * 2 ^ s) ((F + C) * 2 ^ s) s + 1 = C := by
    have c9 : s = 0 ∨ 9 ≤ C := by omega
    clear sum es t2
    unfold Ex StepIs Dd Bd
    refine ⟨?_, ⟨⟨s8, ?_, fun t ht => ?_⟩, ?_, ?_⟩, ?_, ?_⟩
    · rcases le8 s8 with e | e | e | e | e | e | e | e | e <;> subst e <;> omega
    · rcases le8 s8 with e | e | e | e | e | e | e | e | e <;> subst e <;> omega
    · have t8 : t ≤ 8 := by omega
      rcases le8 s8 with e | e | e | e | e | e | e | e | e <;> subst e <;> rcases le8 t8 with e | e | e | e | e | e | e | e | e <;> subst e <;> first | omega | (simp at *; omega)
    all_goals (rcases le8 s8 with e | e | e | e | e | e | e | e | e <;> subst e <;> omega)
  refine ⟨_, _, _, bitp (fRts b), _, s, rfl, ⟨core.1, core.2.1, a0, by omega, k0, by omega, ow, ?_⟩⟩
  rw [wb_eq, core.2.2.1, maskOf_rtx, mask_bitp r0 r1]
  have := core.2.2.2
  omega
/-- one right less -/
def lessp (p : Nat → Bool) (i : Nat) : Nat → Bool := fun k => p k && decide (k ≠ i)
theorem less_mask (p : Nat → Bool) (i : Nat) (hp : p i = true) : ∀ n, (mask p n).sum = (mask (lessp p i) n).sum + (if i < n then (2 : Int) ^ i else 0)
  | 0 => by unfold mask; simp
  | n + 1 => by
    have ih := less_mask p i hp n
    rw [mask_succ, mask_succ, List.sum_append, List.sum_append, ih]
    unfold lessp
    rcases Nat.lt_trichotomy i n with c | c | c
    · have h1 : decide (n ≠ i) = true := decide_eq_true (by omega)
      rw [h1, Bool.and_true, if_pos c, if_pos (show i < n + 1 by omega)]
      omega
    · subst c
      have h1 : decide (i ≠ i) = false := decide_eq_false (by simp)
      rw [h1, Bool.and_false, if_pos hp, if_neg (Nat.lt_irrefl i), if_neg Bool.false_ne_true, if_pos (Nat.lt_succ_self i)]
      simp
    · have h1 : decide (n ≠ i) = true := decide_eq_true (by omega)
      rw [h1, Bool.and_true, if_neg (show ¬ i < n by omega), if_neg (show ¬ i < n + 1 by omega)]
      omega
theorem less_codes (p : Nat → Bool) {i : Nat} (hi : i < 9) : (((rtx p).cps.toList.filter fun c => !decide (V.str (one c) = V.str (one (code i)))).map one) = rcs (lessp p i) 9 := by
  rw [rtx_codes]
  unfold rcs lessp
  rw [List.filter_map, List.map_map, ← List.filter_filter]
  congr 1
  rw [List.filter_filter, List.filter_filter]
  refine List.filter_congr fun k hk => ?_
  have hk9 := List.mem_range.mp hk
  have e : decide (V.str (one (code k)) = V.str (one (code i))) = decide (k = i) := by
    rw [decide_eq_decide]
    constructor
    · intro h
      have h2 := V.str.inj h
      have h3 : code k = code i := by
        have h4 := congrArg (fun x : Str => x.cps.toList) h2
        simpa [one] using h4
      exact code_inj k hk9 i hi h3
    · intro h; rw [h]
  simp only [Function.comp]
  rw [e]
  by_cases c : k = i
  · simp [c]
  · simp [c]
theorem less_one {p : Nat → Bool} {i : Nat} (h : OneW (rtx p)) : OneW (rtx (lessp p i)) := by
  unfold OneW at *
  refine Nat.le_trans ?_ h
  have key : ∀ l : List Str, (l.filter (hasG (rtx (lessp p i)))).length ≤ (l.filter (hasG (rtx p))).length := by
    intro l
    induction l with
    | nil => exact Nat.le_refl _
    | cons g l ih =>
      have mono : hasG (rtx (lessp p i)) g = true → hasG (rtx p) g = true := by
        unfold hasG
        rw [List.any_eq_true, List.any_eq_true]
        rintro ⟨c, c1, c2⟩
        refine ⟨c, c1, decide_eq_true ?_⟩
        have c3 := of_decide_eq_true c2
        rw [rtx_codes] at c3 ⊢
        obtain ⟨k, k1, k2⟩ := List.mem_map.mp c3
        obtain ⟨k3, k4⟩ := List.mem_filter.mp k1
        refine List.mem_map.mpr ⟨k, List.mem_filter.mpr ⟨k3, ?_⟩, k2⟩
        unfold lessp at k4
        exact (Bool.and_eq_true_iff.mp k4).1
      rw [List.filter_cons, List.filter_cons]
      by_cases c : hasG (rtx (lessp p i)) g = true
      · rw [if_pos c, if_pos (mono c)]
        simp only [List.length_cons]
        omega
      · rw [if_neg c]
        split
        · simp only [List.length_cons]; omega
        · exact ih
  exact key _
theorem least_in {lo hi il ih : Int} {t s : Nat} (b : Bd lo hi) (e : Ex lo hi t) (h1 : lo ≤ il) (h2 : il < ih) (h3 : ih ≤ hi) (g : StepIs il ih s) : lo ≤ il / 2 ^ s * 2 ^ s ∧ ((ih - 1) / 2 ^ s + 1) * 2 ^ s ≤ hi := by
  obtain ⟨⟨t8, e1, e2⟩, e3, e4⟩ := e
  obtain ⟨b1, b2, b3⟩ := b
  have st : s ≤ t := by
    rcases Nat.lt_or_ge t s with c | c
    · have := g.2.2 t c
      exfalso
      clear e2 g
      unfold Dd at *
      rcases le8 t8 with e | e | e | e | e | e | e | e | e <;> subst e <;> omega
    · exact c
  have s8 := g.1
  clear e2 g
  unfold Dd at *
  rcases le8 t8 with e | e | e | e | e | e | e | e | e <;> subst e <;> rcases le8 s8 with e | e | e | e | e | e | e | e | e <;> subst e <;> first | omega | (simp at *; omega)
theorem least_ex {il ih : Int} {s : Nat} (b : Bd il ih) (g : StepIs il ih s) : Bd (il / 2 ^ s * 2 ^ s) (((ih - 1) / 2 ^ s + 1) * 2 ^ s) ∧ Ex (il / 2 ^ s * 2 ^ s) (((ih - 1) / 2 ^ s + 1) * 2 ^ s) s ∧ il / 2 ^ s * 2 ^ s ≤ il ∧ ih ≤ ((ih - 1) / 2 ^ s + 1) * 2 ^ s ∧ il / 2 ^ s * 2 ^ s / 2 ^ s = il / 2 ^ s ∧ Dd (il / 2 ^ s * 2 ^ s) (((ih - 1) / 2 ^ s + 1) * 2 ^ s) s = Dd il ih s := by
  obtain ⟨b1, b2, b3⟩ := b
  have s8 := g.1
  have g1 := g.2.1
  have g2 := g.2.2
  refine ⟨?_, ⟨⟨s8, ?_, fun t ht => ?_⟩, ?_, ?_⟩, ?_, ?_, ?_, ?_⟩
  · unfold Bd
    rcases le8 s8 with e | e | e | e | e | e | e | e | e <;> subst e <;> omega
  · unfold Dd at *
    clear g2 g
    rcases le8 s8 with e | e | e | e | e | e | e | e | e <;> subst e <;> omega
  · have g3 := g2 t ht
    have t8 : t ≤ 8 := by omega
    clear g2 g
    unfold Dd at *
    rcases le8 s8 with e | e | e | e | e | e | e | e | e <;> subst e <;> rcases le8 t8 with e | e | e | e | e | e | e | e | e <;> subst e <;> first | omega | (simp at *; omega)
  all_goals (clear g2 g; unfold Dd at *; rcases le8 s8 with e | e | e | e | e | e | e | e | e <;> subst e <;> omega)
theorem bc4 {lo hi : Int} {s : Nat} (b : Bd lo hi) (h : s ≤ 8) : CPow ((hi - 1) / 2 ^ s + 1) (s : Int) := by
  obtain ⟨b1, b2, b3⟩ := b
  have := div_le' (s := s) (x := hi - 1) (by omega)
  exact ⟨by omega, by omega, na (by omega) (by omega)⟩

/-! ### what is drawn: heaps -/
theorem seqT' {K : PySem.W.Frag} {H H' : Hp} {a : Addr} {xs : List V} (e : Same H H') (h : SqT K H a xs) : SqT K H' a xs := by
  rcases h with (h | ⟨o, h⟩) | h
  · exact .inl (.inl (e _ _ h))
  · exact .inl (.inr ⟨o, e _ _ h⟩)
  · exact .inr h
theorem Pool.same {H H' : Hp} {p : Addr} {x y : Int} (h : Pool H p x y) (s : Same H H') : Pool H' p x y := ⟨s _ _ h.1, h.2⟩
theorem But.free {H H' : Hp} {a q : Addr} {x y : Int} (b : But a H H') (P : Pool H' a x y) (n : H' q = none) : H q = none := by
  cases e : H q with
  | none => rfl
  | some o =>
    by_cases c : q = a
    · subst c; rw [P.1] at n; cases n
    · rw [b q o c e] at n; cases n
local macro_rules | `(tactic| walk_at "but") => `(tactic| first | assumption | exact But.refl _ _ | (refine But.trans ?_ (by assumption); walk_at "but") | (refine But.trans ?_ (But.of (by assumption)); walk_at "but") | (refine But.new ?_ (by assumption); walk_at "but") | (refine But.upd ?_; walk_at "but"))
local macro_rules | `(tactic| walk_at "same") => `(tactic| first | assumption | exact Same.refl _ | (refine Same.trans ?_ (by assumption); walk_at "same") | (refine sameN ?_ (by assumption); walk_at "same"))
/-! ### words as they lie in memory -/
def tup5 (b : Int) : List V := [.int (fFirst b * 2 ^ (fStep b).toNat), .int ((fFirst b + fCnt b) * 2 ^ (fStep b).toNat), .int (fAt b), .str (rtx (bitp (fRts b))), .int (fKind b)]
structure Wd (H : Hp) (q : Addr) (m : Bool) (b : Int) : Prop where
  at' : H q = some (.tup [.bl m, .int b])
  w : W45 b
  law : m = true → Law b
theorem Wd.same {H H' : Hp} {q : Addr} {m : Bool} {b : Int} (h : Wd H q m b) (s : Same H H') : Wd H' q m b := ⟨s _ _ h.at', h.w, h.law⟩
theorem Wd.ne {H : Hp} {q a : Addr} {m : Bool} {b x y : Int} (h : Wd H q m b) (P : Pool H a x y) : q ≠ a := by
  intro e; subst e
  have := h.at'
  rw [P.1] at this; cases this
theorem Wd.but {H H' : Hp} {q a : Addr} {m : Bool} {b : Int} (h : Wd H q m b) (s : But a H H') (n : q ≠ a) : Wd H' q m b := ⟨s _ _ n h.at', h.w, h.law⟩
theorem sum_ite (c : Bool) (z : Int) : (if c = true then [z] else []).sum = if c = true then z else 0 := by cases c <;> simp
theorem mask_val (p : Nat → Bool) : (mask p 9).sum = (if p 0 = true then 1 else 0) + (if p 1 = true then 2 else 0) + (if p 2 = true then 4 else 0) + (if p 3 = true then 8 else 0) + (if p 4 = true then 16 else 0) + (if p 5 = true then 32 else 0) + (if p 6 = true then 64 else 0) + (if p 7 = true then 128 else 0) + (if p 8 = true then 256 else 0) := by
  have e0 : (mask p 0).sum = 0 := by unfold mask; simp
  simp only [mask_succ, List.sum_append, sum_ite, e0]
  simp
theorem bit01 (c : Bool) (z : Int) : ∃ x : Int, (0 ≤ x ∧ x ≤ 1) ∧ (if c = true then z else 0) = z * x ∧ c = decide (x = 1) := by
  cases c
  · exact ⟨0, by omega, by simp, by decide⟩
  · exact ⟨1, by omega, by simp, by decide⟩
theorem bitp_mask (p : Nat → Bool) {k : Nat} (h : k < 9) : bitp ((mask p 9).sum) k = p k := by
  unfold bitp
  rw [mask_val]
  obtain ⟨x0, b0, e0, d0⟩ := bit01 (p 0) 1
  obtain ⟨x1, b1, e1, d1⟩ := bit01 (p 1) 2
  obtain ⟨x2, b2, e2, d2⟩ := bit01 (p 2) 4
  obtain ⟨x3, b3, e3, d3⟩ := bit01 (p 3) 8
  obtain ⟨x4, b4, e4, d4⟩ := bit01 (p 4) 16
  obtain ⟨x5, b5, e5, d5⟩ := bit01 (p 5) 32
  obtain ⟨x6, b6, e6, d6⟩ := bit01 (p 6) 64
  obtain ⟨x7, b7, e7, d7⟩ := bit01 (p 7) 128
  obtain ⟨x8, b8, e8, d8⟩ := bit01 (p 8) 256
  rw [e0, e1, e2, e3, e4, e5, e6, e7, e8]
  rcases le8 (show k ≤ 8 by omega) with e | e | e | e | e | e | e | e | e <;> subst e
  · rw [d0, decide_eq_decide]; omega
  · rw [d1, decide_eq_decide]; omega
  · rw [d2, decide_eq_decide]; omega
  · rw [d3, decide_eq_decide]; omega
  · rw [d4, decide_eq_decide]; omega
  · rw [d5, decide_eq_decide]; omega
  · rw [d6, decide_eq_decide]; omega
  · rw [d7, decide_eq_decide]; omega
  · rw [d8, decide_eq_decide]; omega
theorem WF.all {b lo hi at' kd : Int} {p : Nat → Bool} {s : Nat} (W : WF b lo hi at' p kd s) : W45 b ∧ Law b ∧ tup5 b = [.int lo, .int hi, .int at', .str (rtx p), .int kd] ∧ fKind b = kd ∧ fAt b = at' ∧ fRts b = (mask p 9).sum := by
  have mb := maskOf_b (rtx p)
  have D := wb_dec W.bd W.ex W.a0 W.a1 mb.1 mb.2 W.k0 W.k1
  have e := wb_eq lo hi at' (maskOf (rtx p)) kd s
  rw [W.wb] at D e
  obtain ⟨d0, t, e1, e2, e3, e4, e5⟩ := D
  have er : rtx (bitp (fRts b)) = rtx p := by
    rw [e4, maskOf_rtx]
    exact rtx_congr fun k h => bitp_mask p h
  have x := W.ex
  obtain ⟨⟨s8, x1, x2⟩, x3, x4⟩ := x
  obtain ⟨b1, b2, b3⟩ := W.bd
  have dl := div_le' (s := s) b1
  have w := W.a1
  have k := W.k1
  refine ⟨⟨d0, ?_⟩, ⟨t, ?_⟩, ?_, e5, e3, by rw [e4, maskOf_rtx]⟩
  · clear x2 x3 x4 t e1 e2 e3 e4 e5 er
    have : lo / 2 ^ s ≤ 4095 := by omega
    omega
  · rw [er]; exact W.ow
  · unfold tup5
    rw [e1, e2, e3, er, e5]
theorem rtx_inj {p q : Nat → Bool} (h : rtx p = rtx q) {k : Nat} (hk : k < 9) : p k = q k := by
  rw [← hasR_rtx p hk, ← hasR_rtx q hk, h]
theorem ow_sub {p q : Nat → Bool} (h : ∀ k, k < 9 → q k = true → p k = true) (o : OneW (rtx p)) : OneW (rtx q) := by
  unfold OneW at *
  refine Nat.le_trans ?_ o
  have key : ∀ l : List Str, (l.filter (hasG (rtx q))).length ≤ (l.filter (hasG (rtx p))).length := by
    intro l
    induction l with
    | nil => exact Nat.le_refl _
    | cons g l ih =>
      have mono : hasG (rtx q) g = true → hasG (rtx p) g = true := by
        unfold hasG
        rw [List.any_eq_true, List.any_eq_true]
        rintro ⟨c, c1, c2⟩
        refine ⟨c, c1, decide_eq_true ?_⟩
        have c3 := of_decide_eq_true c2
        rw [rtx_codes] at c3 ⊢
        obtain ⟨k, k1, k2⟩ := List.mem_map.mp c3
        obtain ⟨k3, k4⟩ := List.mem_filter.mp k1
        exact List.mem_map.mpr ⟨k, List.mem_filter.mpr ⟨k3, h k (List.mem_range.mp k3) k4⟩, k2⟩
      rw [List.filter_cons, List.filter_cons]
      by_cases c : hasG (rtx q) g = true
      · rw [if_pos c, if_pos (mono c)]
        simp only [List.length_cons]
        omega
      · rw [if_neg c]
        split
        · simp only [List.length_cons]; omega
        · exact ih
  exact key _
/-- the rights to cells and f alone go together -/
theorem ow_low {p : Nat → Bool} (h : ∀ k, k < 9 → 6 ≤ k → p k = false) : OneW (rtx p) := by
  have e : OneW (rtx fun k => decide (k < 6)) := by unfold OneW; decide +kernel
  refine ow_sub (fun k hk hp => ?_) e
  rcases Nat.lt_or_ge k 6 with c | c
  · exact decide_eq_true c
  · rw [h k hk c] at hp; cases hp
/-- a text of rights that is good -/
def RV (v : V) : Prop := ∃ p, v = .str (rtx p) ∧ OneW (rtx p)
theorem rv {s : Str} (h : s = rtx (hasR s)) (o : OneW s) : RV (.str s) := ⟨hasR s, congrArg V.str h, h ▸ o⟩
theorem rvd {s : Str} (h : (decide (s = rtx (hasR s)) && decide (([G0, G1, G2].filter (hasG s)).length ≤ 1)) = true) : RV (.str s) := by
  rw [Bool.and_eq_true] at h
  exact rv (of_decide_eq_true h.1) (of_decide_eq_true (p := ([G0, G1, G2].filter (hasG s)).length ≤ 1) h.2)
/-- one word within another -/
def Within (b c : Int) : Prop := fFirst c * 2 ^ (fStep c).toNat ≤ fFirst b * 2 ^ (fStep b).toNat ∧ (fFirst b + fCnt b) * 2 ^ (fStep b).toNat ≤ (fFirst c + fCnt c) * 2 ^ (fStep c).toNat ∧ (∀ k, k < 9 → bitp (fRts b) k = true → bitp (fRts c) k = true) ∧ (fKind b = fKind c ∨ (fKind c = 0 ∧ fKind b ≠ 2))
theorem Within.refl (b : Int) : Within b b := ⟨Int.le_refl _, Int.le_refl _, fun _ _ h => h, .inl rfl⟩
theorem sub_iff {p q : Nat → Bool} : (∀ c ∈ (rtx p).cps.toList, c ∈ (rtx q).cps.toList) ↔ ∀ k, k < 9 → p k = true → q k = true := by
  constructor
  · intro h k hk hp
    exact (rtx_mem q hk).mp (h _ ((rtx_mem p hk).mpr hp))
  · intro h c hc
    rw [rtx_codes] at hc
    obtain ⟨k, hk, rfl⟩ := List.mem_map.mp hc
    obtain ⟨k1, k2⟩ := List.mem_filter.mp hk
    have k9 := List.mem_range.mp k1
    exact (rtx_mem q k9).mpr (h k k9 k2)
theorem WF.uniq {b lo hi at' kd lo' hi' a' kd' : Int} {p p' : Nat → Bool} {s s' : Nat} (W : WF b lo hi at' p kd s) (W' : WF b lo' hi' a' p' kd' s') : lo = lo' ∧ hi = hi' ∧ at' = a' ∧ rtx p = rtx p' ∧ kd = kd' ∧ s = s' := by
  have e := W.all.2.2.1.symm.trans W'.all.2.2.1
  injection e with g1 e
  injection e with g2 e
  injection e with g3 e
  injection e with g4 e
  injection e with g5 _
  have h1 := V.int.inj g1
  have h2 := V.int.inj g2
  refine ⟨h1, h2, V.int.inj g3, V.str.inj g4, V.int.inj g5, ?_⟩
  have x := W.ex.1
  rw [h1, h2] at x
  exact x.uniq W'.ex.1
theorem WF.within {b c lo hi at' kd lo' hi' a' kd' : Int} {p p' : Nat → Bool} {s s' : Nat} (W : WF b lo hi at' p kd s) (W' : WF c lo' hi' a' p' kd' s') : Within b c ↔ lo' ≤ lo ∧ hi ≤ hi' ∧ (∀ k, k < 9 → p k = true → p' k = true) ∧ (kd = kd' ∨ (kd' = 0 ∧ kd ≠ 2)) := by
  have e := W.all.2.2.1
  have e' := W'.all.2.2.1
  unfold tup5 at e e'
  injection e with g1 e
  injection e with g2 e
  injection e with g3 e
  injection e with g4 e
  injection e with g5 _
  injection e' with h1 e'
  injection e' with h2 e'
  injection e' with h3 e'
  injection e' with h4 e'
  injection e' with h5 _
  unfold Within
  rw [V.int.inj g1, V.int.inj g2, V.int.inj g5, V.int.inj h1, V.int.inj h2, V.int.inj h5]
  have r1 : ∀ k, k < 9 → bitp (fRts b) k = p k := fun k hk => rtx_inj (V.str.inj g4) hk
  have r2 : ∀ k, k < 9 → bitp (fRts c) k = p' k := fun k hk => rtx_inj (V.str.inj h4) hk
  constructor
  · rintro ⟨a1, a2, a3, a4⟩
    exact ⟨a1, a2, fun k hk hp => by rw [← r2 k hk]; exact a3 k hk (by rw [r1 k hk]; exact hp), a4⟩
  · rintro ⟨a1, a2, a3, a4⟩
    exact ⟨a1, a2, fun k hk hp => by rw [r2 k hk]; exact a3 k hk (by rw [← r1 k hk]; exact hp), a4⟩
def andp (p q : Nat → Bool) : Nat → Bool := fun k => p k && q k
theorem bitp_nat (n k : Nat) : bitp (n : Int) k = n.testBit k := by
  unfold bitp
  rw [Nat.testBit_eq_decide_div_mod_eq, decide_eq_decide]
  have e : (n : Int) / 2 ^ k % 2 = ((n / 2 ^ k % 2 : Nat) : Int) := by
    rw [Int.natCast_emod, Int.natCast_ediv, Int.natCast_pow]; rfl
  rw [e]; omega
theorem mask_and (p q : Nat → Bool) : Builtin.bitAnd ((mask p 9).sum) ((mask q 9).sum) = (mask (andp p q) 9).sum := by
  have hp := mask_b p 9 (Nat.le_refl _)
  have hq := mask_b q 9 (Nat.le_refl _)
  rw [PyProof.Rows.bitAnd_pp hp.1 hq.1]
  have ep : (((mask p 9).sum.toNat : Nat) : Int) = (mask p 9).sum := by omega
  have eq : (((mask q 9).sum.toNat : Nat) : Int) = (mask q 9).sum := by omega
  have lt : (mask p 9).sum.toNat &&& (mask q 9).sum.toNat < 512 := Nat.lt_of_le_of_lt Nat.and_le_left (by omega)
  rw [← mask_bitp (m := (((mask p 9).sum.toNat &&& (mask q 9).sum.toNat : Nat) : Int)) (by omega) (by omega)]
  rw [mask_congr fun k hk => ?_]
  rw [bitp_nat, Nat.testBit_and, ← bitp_nat, ← bitp_nat, ep, eq, bitp_mask p hk, bitp_mask q hk]
  rfl
theorem WF.lohi {b lo hi at' kd : Int} {p : Nat → Bool} {s : Nat} (W : WF b lo hi at' p kd s) : fFirst b * 2 ^ (fStep b).toNat = lo ∧ (fFirst b + fCnt b) * 2 ^ (fStep b).toNat = hi := by
  have e := W.all.2.2.1
  unfold tup5 at e
  injection e with g1 e
  injection e with g2 e
  exact ⟨V.int.inj g1, V.int.inj g2⟩
theorem mask_sub (p q : Nat → Bool) : Builtin.bitAnd ((mask p 9).sum) ((mask q 9).sum) = (mask p 9).sum ↔ ∀ k, k < 9 → p k = true → q k = true := by
  rw [mask_and]
  constructor
  · intro h k hk hp
    have e : bitp ((mask (andp p q) 9).sum) k = bitp ((mask p 9).sum) k := by rw [h]
    rw [bitp_mask _ hk, bitp_mask _ hk, hp] at e
    unfold andp at e
    exact (Bool.and_eq_true_iff.mp e).2
  · intro h
    rw [mask_congr fun k hk => ?_]
    unfold andp
    cases e : p k
    · rfl
    · rw [h k hk e]; rfl

theorem made_eq {lo hi : Int} {s : Nat} (x : Ex lo hi s) : (hi - lo) / 2 ^ s - 1 = Dd lo hi s := by
  obtain ⟨h1, h2, h3⟩ := x
  have p := pow_pos2 s
  have e : hi - lo = ((hi - 1) / 2 ^ s + 1 - lo / 2 ^ s) * 2 ^ s := by
    rw [Int.sub_mul, h2, h3]
  rw [e, Int.mul_ediv_cancel _ (Int.ne_of_gt p)]
  unfold Dd; omega
theorem made_step {p : Nat → Bool} {j : Nat} {b z : Int} {c : Bool} (hc : c = p j) (h : b = z + (mask p j).sum * 4294967296) : b + (if c = true then (1 : Int) else 0) * 2 ^ (32 + (j : Int)).toNat = z + (mask p (j + 1)).sum * 4294967296 := by
  have e : (32 + (j : Int)).toNat = 32 + j := by omega
  rw [e, Int.pow_add, show (2 : Int) ^ 32 = 4294967296 by decide, mask_succ, List.sum_append, sum_ite, hc, h, Int.add_mul]
  cases p j with
  | false => simp
  | true =>
    rw [if_pos rfl, if_pos rfl, Int.one_mul]
    omega
theorem with_fin {A P G : Prop} (h : A → P) (k : (A → P) → G) : G := k h

theorem RL_get : ∀ k, k < 6 → (Str.ofString "rwlsnf").cps[k]? = some (code k) := by decide +kernel
theorem RL_size : (Str.ofString "rwlsnf").cps.size = 6 := by decide +kernel
theorem rcs_congr {p q : Nat → Bool} {i : Nat} (h : ∀ k, k < i → p k = q k) : rcs p i = rcs q i := by
  unfold rcs
  rw [List.filter_congr fun k hk => h k (List.mem_range.mp hk)]
def setp (p : Nat → Bool) (i : Nat) (c : Bool) : Nat → Bool := fun k => if k = i then c else p k
theorem rcs_set (p : Nat → Bool) (i : Nat) (c : Bool) : rcs (setp p i c) (i + 1) = rcs p i ++ (if c = true then [one (code i)] else []) := by
  rw [rcs_succ, rcs_congr (p := setp p i c) (q := p) fun k hk => by unfold setp; rw [if_neg (by omega)]]
  unfold setp
  rw [if_pos rfl]
def lowp (p : Nat → Bool) : Nat → Bool := fun k => p k && decide (k < 6)
theorem rcs_low (p : Nat → Bool) : rcs p 6 = rcs (lowp p) 9 := by
  rw [rcs_succ (lowp p) 8, rcs_succ (lowp p) 7, rcs_succ (lowp p) 6]
  have h6 : lowp p 6 = false := by unfold lowp; simp
  have h7 : lowp p 7 = false := by unfold lowp; simp
  have h8 : lowp p 8 = false := by unfold lowp; simp
  rw [h6, h7, h8]
  simp only [Bool.false_eq_true, if_false, List.append_nil]
  refine rcs_congr fun k hk => ?_
  unfold lowp
  rw [decide_eq_true hk, Bool.and_true]
theorem ow_lowp (p : Nat → Bool) : OneW (rtx (lowp p)) := ow_low fun k _ h => by
  unfold lowp
  rw [decide_eq_false (by omega), Bool.and_false]
theorem rcs_fit6 (p : Nat → Bool) : ((rcs p 6).map (·.length)).sum + (rcs p 6).length * (Str.ofString "").length ≤ 16777216 := by
  rw [rcs_low]; exact rcs_fit _
theorem join_low (p : Nat → Bool) : Txt.join (Str.ofString "") (rcs p 6) = rtx (lowp p) := by
  rw [rcs_low]; rfl

theorem with_finW {A P : Int → Int → Hp → Prop} {G : Prop} (h : ∀ lo hi H, A lo hi H → P lo hi H) (k : (∀ lo hi H, A lo hi H → P lo hi H) → G) : G := k h
theorem small_ex {lo hi : Int} (h1 : lo < hi) (h2 : hi - lo ≤ 16) : ∃ s, Ex lo hi s := by
  refine ⟨0, ⟨by omega, ?_, fun t ht => absurd ht (Nat.not_lt_zero t)⟩, ?_, ?_⟩
  · unfold Dd; simp; omega
  · simp
  · simp
theorem W45_of {n : Nat} (h : n < 35184372088832) : W45 (n : Int) := by unfold W45; omega
theorem sub_nodup : ∀ {L l : List Nat}, l.Sublist L → L.Nodup → l = L.filter (fun k => decide (k ∈ l)) := by
  intro L l h
  induction h with
  | slnil => intro _; rfl
  | @cons l L a h ih =>
    intro n
    obtain ⟨n1, n2⟩ := List.nodup_cons.mp n
    have na : a ∉ l := fun z => n1 (h.subset z)
    rw [List.filter_cons, if_neg (by simpa using na)]
    exact ih n2
  | @cons_cons l L a h ih =>
    intro n
    obtain ⟨n1, n2⟩ := List.nodup_cons.mp n
    rw [List.filter_cons, if_pos (by simp)]
    congr 1
    refine (ih n2).trans (List.filter_congr fun k hk => ?_)
    have nk : k ≠ a := fun z => n1 (z ▸ hk)
    rw [decide_eq_decide]
    simp [nk]
theorem sub_rtx {p : Nat → Bool} {l : List Nat} (h : l.Sublist (rtx p).cps.toList) : ∃ q : Nat → Bool, (∀ k, k < 9 → q k = true → p k = true) ∧ l.map one = rcs q 9 := by
  rw [rtx_codes] at h
  obtain ⟨l', h1, rfl⟩ := List.sublist_map_iff.mp h
  have h2 : l'.Sublist (List.range 9) := h1.trans List.filter_sublist
  have e := sub_nodup h2 List.nodup_range
  refine ⟨fun k => decide (k ∈ l'), fun k _ hk => ?_, ?_⟩
  · have m := h1.subset (of_decide_eq_true hk)
    exact (List.mem_filter.mp m).2
  · unfold rcs
    rw [List.map_map, ← e]
    rfl
theorem sub_snoc {l L : List Nat} {i c : Nat} (h : l.Sublist (L.take i)) (e : L[i]? = some c) : (l ++ [c]).Sublist (L.take (i + 1)) := by
  rw [List.take_add_one, e]
  exact h.append (List.Sublist.refl _)
theorem sub_skip {l L : List Nat} {i : Nat} (h : l.Sublist (L.take i)) : l.Sublist (L.take (i + 1)) := by
  rw [List.take_add_one]
  exact h.trans (List.sublist_append_left _ _)
theorem sub_len {l : List Nat} {i : Nat} {p : Nat → Bool} (h : l.Sublist ((rtx p).cps.toList.take i)) : l.length < 1000 := by
  have h1 := h.length_le
  rw [List.length_take] at h1
  have := rtx_len p
  have e : (rtx p).cps.toList.length = (rtx p).cps.size := by simp
  omega

theorem ex1648 : ∃ s, Ex 16 48 s := ⟨1, ⟨by decide, by decide, fun t ht => by
  have : t = 0 := by omega
  subst this; decide⟩, by decide, by decide⟩
theorem take_all {α : Type} {l : List α} {n : Nat} (h : n = l.length) : l.take n = l := by rw [h, List.take_length]
theorem size_len (z : Str) : z.cps.size = z.cps.toList.length := by simp
theorem strs_fit {l : List Nat} (h : l.length < 1000) : (((l.map one)).map (·.length)).sum + (l.map one).length * (Str.ofString "").length ≤ 16777216 := by
  have e : (Str.ofString "").length = 0 := by decide +kernel
  have e2 : ((l.map one).map (·.length)).sum = l.length := by
    clear h e
    induction l with
    | nil => rfl
    | cons x r ih =>
      simp only [List.map_cons, List.sum_cons, List.length_cons] at *
      rw [ih]
      show 1 + _ = _
      omega
  rw [e, e2]
  omega
theorem filt_nil {l : List Nat} {f : Nat → Bool} : (l.filter f).isEmpty = true ↔ ∀ c ∈ l, ¬ f c = true := by
  rw [List.isEmpty_iff, List.filter_eq_nil_iff]
/-! ### the law's own call, where nothing guards: repr of data -/
/-- a def's body, walked for one caller's state A alone -/
theorem body_at {P : Program} {w : World} {K : PySem.W.Frag} {mg : Str → Option Value} {base : Heap} {k : Nat} {f : Addr} {name qual : Str} {params : Arguments} {body : List Stmt} {scope : Scope}
    {dV kV doc pm cdv ct oc : Value} {an od : Option Addr} {osl : Array (Option Value)} {N ps : List Str} {A : Around} {outer : List Env} {s : Shared} {H : Hp} {args : Args} {us : List Value} {vs : List V} {Q : VK}
    (lk : K.lookup f = some ⟨oc, od, .func (PySem.W.fnOf name qual params body scope dV kV doc pm an cdv ct), osl⟩) (hcd : PySem.W.codeIn K cdv qual = true) (S : FnScope N ps scope) (hl : vs.length = ps.length)
    (hr : Room (k + 1) A) (e0 : Env0 P w K mg base A outer s H) (hb : BindsTo s (PySem.W.fnOf name qual params body scope dV kV doc pm an cdv ct) args (ps.zip us)) (rv : Vals vs us)
    (walk : ∃ t, PSs (cxOf CX0 P w K mg base N qual scope f cdv A outer s H (fun _ _ _ => False)) body t ∧ t { nx := fun _ H' => Q .non H', rt := Q } (start N vs) H) :
    codeAny (model P w) A (.call (.ref f) args) (CR CX0 outer P w H s Q fun _ _ _ => False) s := by
  have old : ∀ b o, base.get? b = some o → s.heap.get? b = some o := fun b o z => (e0.bs b o z).1
  have inK : K.In s.heap := e0.mod.kin.keeps old
  have slots : ∀ y ∈ ps.zip us, scope.names.lookup y.1 = some .local ∨ (scope.names.lookup y.1 = some .cell ∧ ((cellsFrom (s.heap.objs.size + 1) scope.names []).lookup y.1).isSome = true) := by
    rintro ⟨n, v⟩ hy
    cases S.par n (List.of_mem_zip hy).1 with
    | inl z => exact Or.inl z
    | inr z => exact Or.inr ⟨z, PySem.W.cellsFrom_some _ _ _ (Or.inl z)⟩
  obtain ⟨t, ht, hq⟩ := walk
  refine codeAny_call_function hr.depth (inK _ _ lk) rfl S.co S.gen rfl (PySem.W.codeRec_of inK hcd) (hb _ _ _ _ ?_)
  refine wpAny_newFunctionEnv_cells S.kind slots fun env eenv s1 ic => ?_
  subst eenv
  refine ⟨(e0.mod.nolimit.keeps old).keeps ic.toInCall.keep, codeAny_func ?_⟩
  have J := inv_start (CX := CX0) (E := fun _ _ _ => False) S hr.hd e0 hl rv ic
  refine wpAny_mono (ht.run [] s1 _ H _ J hq) (fun fl s' got => ?_) fun _ _ z => z
  match fl, got with
  | .ret u, ⟨v, σ', H', J', r', q'⟩ => exact ⟨v, H', J'.os, J'.bare, J'.base, J'.hok, r', q'⟩
  | .next, ⟨σ', H', J', q'⟩ => exact ⟨.non, H', J'.os, J'.bare, J'.base, J'.hok, rfl, q'⟩
  | .brk, ⟨_, _, _, q'⟩ => exact q'.elim
  | .cont, ⟨_, _, _, q'⟩ => exact q'.elim
/-- the script as the only thing that may be tracked -/
structure Scr (P : Program) (w : World) (K : PySem.W.Frag) (h : Heap) (a : Addr) (ns : List Int) (H : Hp) : Prop where
  only : Only H
  seq : SqL K H a (ns.map V.int)
  ok : HOk P w H h
  at' : ∀ b, H b ≠ none → b = a ∧ K.lookup a = none
theorem scr {P : Program} {w : World} {K : PySem.W.Frag} {h : Heap} {a : Addr} {vs : List Value} {ns : List Int} (KX : K.In h)
    (ha : h.get? a = some { cls := .type "list", data := .seq vs.toArray }) (hi : IntsAre vs ns) (hl : ns.length ≤ sizeLine) : ∃ H, Scr P w K h a ns H := by
  have rel := vals_ints hi
  have len : (ns.map V.int).length ≤ sizeLine := by rw [List.length_map]; exact hl
  by_cases inK : K.lookup a = none
  · refine ⟨upd (fun _ => none) a (.frz { cls := .type "list", data := .seq vs.toArray } (.lst (ns.map V.int))), fun b => ?_, .inl (.inr ⟨_, upd_same⟩), fun b o e => ?_, fun b e => ?_⟩
    · rcases Decidable.em (b = a) with z | z
      · subst z; exact .inr ⟨_, _, upd_same⟩
      · exact .inl (upd_ne z)
    · rcases Decidable.em (b = a) with z | z
      · subst z
        rw [upd_same] at e
        cases e
        exact ⟨ha, len, vs, _, rel, ha⟩
      · rw [upd_ne z] at e; cases e
    · rcases Decidable.em (b = a) with z | z
      · exact ⟨z, inK⟩
      · exact absurd (upd_ne z) e
  · obtain ⟨o, ho⟩ : ∃ o, K.lookup a = some o := by
      cases e : K.lookup a with
      | none => exact absurd e inK
      | some o => exact ⟨o, rfl⟩
    have same : o = { cls := .type "list", data := .seq vs.toArray } := Option.some.inj ((KX a o ho).symm.trans ha)
    subst same
    refine ⟨fun _ => none, fun _ => .inl rfl, .inr ⟨_, vs.toArray, 0, ho, rfl, rfl, rfl, ?_, ?_⟩, fun _ _ e => ?_, fun _ e => absurd rfl e⟩
    · have := hi.length
      show vs.toArray.size ≤ sizeLine
      rw [List.size_toArray]; omega
    · show Vals _ vs.toArray.toList
      exact rel
    · exact nomatch e
/-- the law's call from its promise, walked where nothing guards -/
theorem call_scr {P : Program} {w : World} {K : PySem.W.Frag} {mg mb : Str → Option Value} {fa a : Addr} {s₁ : Shared} {vs : List Value} {ns : List Int}
    (KX : K.In s₁.heap) (hns : s₁.heap.Ns mainGlobals mg) (hb : s₁.heap.Ns builtinsNs mb) (hbb : ∀ x : Str, x ≠ "__name__" → mb x = bootBuiltins x) (hlim : s₁.heap.NoLimit) (hg : s₁.gens = #[])
    (ha : s₁.heap.get? a = some { cls := .type "list", data := .seq vs.toArray }) (hi : IntsAre vs ns) (hl : ns.length ≤ sizeLine)
    (B : ∀ base H, K.In base → base.Ns mainGlobals mg → Env0 P w K mg base callerA [] s₁ H → SqL K H a (ns.map V.int) →
      codeAny (model P w) callerA (.call (.ref fa) ⟨[.ref a], []⟩) (CR CX0 [] P w H s₁ (fun v _ => v = .bl true) fun _ _ _ => False) s₁) :
    codeAny (model P w) callerA (.call (.ref fa) ⟨[.ref a], []⟩) (fun r s' => r = .ok (.ret (.bool true)) ∧ OldK s₁.heap s'.heap ∧ s'.os = s₁.os ∧ AllBare s'.gens) s₁ := by
  obtain ⟨H, C⟩ := scr (P := P) (w := w) KX ha hi hl
  -- what holds no list stands in the part that is not tracked
  have free : ∀ b o, s₁.heap.get? b = some o → (∀ n, o.data ≠ .seq vs.toArray n) → H b = none := fun b o e nd => by
    rcases Decidable.em (H b = none) with z | z
    · exact z
    · have q := (C.at' b z).1
      subst q
      rw [ha] at e
      cases e
      exact absurd rfl (nd _)
  have ns_of : ∀ L m, s₁.heap.Ns L m → (hidT s₁.heap H).Ns L m := fun L m n => by
    obtain ⟨o, es, ep, e, d, r⟩ := n
    exact ⟨o, es, ep, hidT_get e (free _ _ e fun k z => by rw [d] at z; cases z), d, r⟩
  have kin : K.In (hidT s₁.heap H) := fun b o e => by
    refine hidT_get (KX b o e) ?_
    rcases Decidable.em (H b = none) with z | z
    · exact z
    · obtain ⟨q, u⟩ := C.at' b z
      subst q
      rw [u] at e; cases e
  obtain ⟨mc, l1, l2⟩ := hlim
  have e0 : Env0 P w K mg (hidT s₁.heap H) callerA [] s₁ H :=
    ⟨rfl, ⟨kin, ns_of _ _ hns, ⟨mb, ns_of _ _ hb, hbb⟩, mc, ns_of _ _ l1, l2⟩, fun b o e => of_hidT e, Nat.le_of_eq (hidT_size _ _), trivial, fun b z => absurd (show b ∈ ([] : List Addr) from z) (by simp), C.ok, AllBare.of_eq hg⟩
  refine codeAny_mono (B _ H kin (ns_of _ _ hns) e0 C.seq) fun r s' got => ?_
  match r, got with
  | .ok (.ret u), ⟨v, H', os, bare, un, hok', rv, q⟩ =>
    cases q
    cases rv
    refine ⟨rfl, OldK.of_keep fun b o e => ?_, os, bare⟩
    rcases C.only b with z | ⟨ob, xs, z⟩
    · exact un.keep b o e z (fun y => nomatch y) (fun y => nomatch y)
    · have o1 := (C.ok b _ z).1
      have o2 := (hok' b _ (un.frzs b ob _ z)).1
      have := Option.some.inj (o1.symm.trans e)
      subst this
      exact o2
  | .ok .next, z => exact False.elim z
  | .ok .brk, z => exact False.elim z
  | .ok .cont, z => exact False.elim z
  | .error e, z => exact False.elim z
/-- the goal that the head leaves: the law's def walked for its caller's own state, in which nothing guards -/
theorem walk_scr {l : PySem.W.OpenLaw} {n : Nat} {q : Program} {loose : List Str} {XP : (Str → Option Value) → Heap → Prop} {YP : World → Heap → Prop} {d : DefRec} {K : Params → PySem.W.Frag}
    (hn : l.most = some n) (hn2 : n ≤ sizeLine) (hdf : d.params.defaults = []) (hY : ∀ (w : World) (h : Heap), YP w h → (K w.params).In h)
    (F : ∀ (w : World) (mg : Str → Option Value) (fa : Addr) (h : Heap), (K w.params).In h → h.Ns mainGlobals mg → mg d.name = some (.ref fa) →
      ∀ (base : Heap) (H : Hp) (s : Shared) (a : Addr) (ns : List Int), (K w.params).In base → base.Ns mainGlobals mg → Env0 l.prog w (K w.params) mg base callerA [] s H → SqL (K w.params) H a (ns.map V.int) → ns.length ≤ n →
        codeAny (model l.prog w) callerA (.call (.ref fa) ⟨[.ref a], []⟩) (CR CX0 [] l.prog w H s (fun v _ => v = .bl true) fun _ _ _ => False) s) :
    PySem.W.WalkO q loose XP YP l.row.toRowW d [] (fun f vs => PySem.call f vs) := by
  refine Att.attach_call hn hdf fun w s₀ s₁ mg mb fa o pm cd doc a vs ns G Y _ _ _ hmg hobj hints hlen hg => ?_
  have KX := hY w _ Y
  exact call_scr KX G.T.g G.T.b G.T.builtins G.T.nolimit hg hobj hints (Nat.le_trans hlen hn2) fun base H kb nb e0 hS => F w mg fa _ KX G.T.g hmg base H s₁ a ns kb nb e0 hS hlen
theorem caller_guards : callerA.guards = some [] := by first | rfl | decide
/-- repr of data, where nothing guards -/
def rRepr (K : PySem.W.Frag) : List V → Hp → VK → Prop := fun xs H Q => ∃ (x : V) (d : PyData), xs = [x] ∧ Dp K H x d ∧ d.showable = true ∧ d.hasDict = false ∧ d.depth ≤ 50 ∧ d.shown.length ≤ sizeLine ∧ Q (.str d.shown) H
theorem call_reprD {X : Cx} (gd : X.A.guards = some []) (hu : X.A.units + 64 < cLine) : CallR X (.builtin "repr") (rRepr X.K) := by
  intro pins s σ H xs us Q I r h
  obtain ⟨x, d, rfl, hd, hs, hnd, hdp, hz, hq⟩ := h
  obtain ⟨u, rfl, ru⟩ := r.one
  obtain ⟨as, rd⟩ := Dp.reads I d x u hd ru
  have byRef : ∀ a, u = .ref a → wpAny (model X.prog X.w) X.A (call (.builtin "repr") [u]) (EP X pins σ Q) X.xe s := fun a e => by
    subst e
    exact repr_of_reads' rd hs (fun z => by rw [hnd] at z; cases z) gd (by omega) (fun _ _ z => z) (fun h' v tk k => ⟨.str d.shown, H, I.kept (t' := tk) k, ⟨_, rfl⟩, hq⟩) hz
  cases hd with
  | non =>
    cases ru
    exact PySem.P.repr_of_none ⟨.str "None", H, I.tok _, ⟨_, rfl⟩, hq⟩
  | bl b =>
    cases ru
    exact PySem.P.repr_of_bool ⟨.str (if b then "True" else "False"), H, I.tok _, ⟨_, rfl⟩, hq⟩
  | int i =>
    obtain ⟨t, rfl⟩ := ru
    exact PySem.P.repr_of_int (of_decide_eq_true hs) ⟨.str (toString i), H, I.tok _, ⟨_, rfl⟩, hq⟩
  | str z =>
    obtain ⟨t, rfl⟩ := ru
    exact PySem.P.repr_of_str ⟨.str (reprText z), H, I.tok _, ⟨_, rfl⟩, hq⟩ hz
  | lst _ _ => exact byRef _ ru
  | tup _ _ => exact byRef _ ru
/-! ### a list compared with the empty one -/
def rEqE (K : PySem.W.Frag) : R2 := fun x y H Q => ∃ a b xs, x = .ref a ∧ y = .ref b ∧ H a = some (.lst xs) ∧ H b = some (.lst []) ∧ Q (.bl xs.isEmpty) H
def rNeE (K : PySem.W.Frag) : R2 := fun x y H Q => ∃ a b xs, x = .ref a ∧ y = .ref b ∧ H a = some (.lst xs) ∧ H b = some (.lst []) ∧ Q (.bl (!xs.isEmpty)) H
section
variable {X : Cx}
theorem plain_list {h : Heap} {a : Addr} {its : List Value} (p : PlainL h a its.toArray) : h.IsList a its.toArray := p.isList
theorem op_eqE (hu : X.A.units + 64 < cLine) : OpR X (compareOp .Eq) (rEqE X.K) := by
  intro pins s σ H x y v u Q I rx ry h
  obtain ⟨a, b, xs, rfl, rfl, ea, eb, q⟩ := h
  obtain rfl : v = Value.ref a := rx
  obtain rfl : u = Value.ref b := ry
  obtain ⟨its, r, pa, _⟩ := I.list (.of ea)
  obtain ⟨jts, r2, pb, _⟩ := I.list (.of eb)
  have l := r.length
  have l2 := r2.length
  cases xs with
  | nil =>
    have hsz : its.toArray.size = jts.toArray.size := by simp; rw [← l, ← l2]
    refine PySem.SeqAt.eq_listAt (e := fun _ => true) pa.isList pb.isList hsz (by omega) (fun j h1 h2 => ?_) ?_
    · have : its.length = 0 := l.symm
      simp at h1; omega
    · have : its.length = 0 := l.symm
      refine ⟨.bl true, H, I, ?_, q⟩
      show Value.bool _ = Value.bool true
      simp [this]
  | cons z zs =>
    refine PySem.SeqAt.eq_list_lengthsAt pa.isList pb.isList ?_ (by omega) ⟨.bl false, H, I, rfl, q⟩
    have e1 : jts.length = 0 := l2.symm
    have e2 : its.length = zs.length + 1 := l.symm
    simp; omega
theorem op_neE (hu : X.A.units + 64 < cLine) : OpR X (compareOp .NotEq) (rNeE X.K) := by
  intro pins s σ H x y v u Q I rx ry h
  obtain ⟨a, b, xs, rfl, rfl, ea, eb, q⟩ := h
  obtain rfl : v = Value.ref a := rx
  obtain rfl : u = Value.ref b := ry
  obtain ⟨its, r, pa, _⟩ := I.list (.of ea)
  obtain ⟨jts, r2, pb, _⟩ := I.list (.of eb)
  have l := r.length
  have l2 := r2.length
  cases xs with
  | nil =>
    have hsz : its.toArray.size = jts.toArray.size := by simp; rw [← l, ← l2]
    refine PySem.SeqAt.RcNeAt.lists (e := fun _ => true) pa.isList pb.isList hsz (by omega) (fun j h1 h2 => ?_) X.prog X.w _ _ ?_
    · have : its.length = 0 := l.symm
      simp at h1; omega
    · have : its.length = 0 := l.symm
      refine ⟨.bl false, H, I, ?_, q⟩
      show Value.bool _ = Value.bool false
      simp [this]
  | cons z zs =>
    refine PySem.SeqAt.RcNeAt.lists_lengths pa.isList pb.isList ?_ (by omega) X.prog X.w _ _ ⟨.bl true, H, I, rfl, q⟩
    have e1 : jts.length = 0 := l2.symm
    have e2 : its.length = zs.length + 1 := l.symm
    simp; omega
end
def rLenSq (K : PySem.W.Frag) : List V → Hp → VK → Prop := fun xs H Q => ∃ p ys, xs = [.ref p] ∧ (SqL K H p ys ∨ SqT K H p ys) ∧ Q (.int ys.length) H
theorem call_lenSq {X : Cx} : CallR X (.builtin "len") (rLenSq X.K) := call_len_seq
def rTupOf (K : PySem.W.Frag) : List V → Hp → VK → Prop := fun xs H Q => ∃ p ys, xs = [.ref p] ∧ ((SqL K H p ys ∧ ∀ l : Addr, H l = none → Q (.ref l) (upd H l (.tup ys))) ∨ SqT K H p ys ∧ Q (.ref p) H)
theorem call_tupOf {X : Cx} : CallR X (.type "tuple") (rTupOf X.K) := call_tuple_of
def rLstOf (K : PySem.W.Frag) : List V → Hp → VK → Prop := fun xs H Q => ∃ p ys, xs = [.ref p] ∧ (SqL K H p ys ∨ SqT K H p ys) ∧ ∀ l : Addr, H l = none → Q (.ref l) (upd H l (.lst ys))
theorem call_lstOf {X : Cx} : CallR X (.type "list") (rLstOf X.K) := call_list_of
/-! ### an error that is kept behind its suite -/
/-- at a: an exception of the class cls, its own dict at d -/
def kept (a : Addr) (cls : Value) (d : Option Addr) : HO := .ext fun h => ∃ oe, h.get? a = some oe ∧ Zc cls d oe ∧ ∃ vs, oe.data = .fields vs
theorem kept_ok {P : Program} {w : World} {H : Hp} {h : Heap} {a : Addr} {cls : Value} {d : Option Addr} {oe : Obj} {vs : Array Value} (e : h.get? a = some oe) (z : Zc cls d oe) (hd : oe.data = .fields vs) : ObjOk P w H h a (kept a cls d) :=
  ⟨⟨oe, e, z, vs, hd⟩, ⟨oe, e⟩, fun _ _ ⟨o, e1, r⟩ k => ⟨o, k o e1, r⟩⟩
theorem Inv.track {X : Cx} {pins : List (Addr × Obj)} {σ : L2.St} {H : Hp} {s : Shared} {a : Addr} {cls : Value} {d : Option Addr} {oe : Obj} {vs : Array Value} (I : Inv X pins σ H s)
    (e : s.heap.get? a = some oe) (z : Zc cls d oe) (hd : oe.data = .fields vs) (na : H a = none) (n0 : X.s_0.heap.get? a = none) (nL : a ≠ X.env.locals) (np : ∀ p ∈ X.pn ++ pins, p.1 ≠ a) :
    Inv X pins σ (upd H a (kept a cls d)) s := by
  refine ⟨I.ok, I.os, I.bare, ⟨I.base.keep, I.base.slot, fun b o q n hx => ?_, I.base.there, fun b xs q => ?_, fun b o u q => ?_, fun b ps q => ?_⟩, I.loc, I.cell, ?_, fun x c q => ?_, fun p hp => ?_, fun b o q => ?_, I.len⟩
  · have nb : b ≠ a := fun y => by rw [y, n0] at q; cases q
    rw [upd_ne nb]
    exact I.base.free b o q n hx
  · have q' := I.base.tups b xs q
    rw [upd_ne (ne_of_none q' na)]; exact q'
  · have q' := I.base.frzs b o u q
    rw [upd_ne (ne_of_none q' na)]; exact q'
  · obtain ⟨more, q'⟩ := I.base.tbls b ps q
    exact ⟨more, by rw [upd_ne (ne_of_none q' na)]; exact q'⟩
  · rw [upd_ne (Ne.symm nL)]; exact I.free
  · have nc : c ≠ a := fun y => by
      obtain ⟨v, o, e1, e2⟩ := I.cell x c q
      rw [y, e] at e1
      cases e1
      rw [hd] at e2
      cases e2
    rw [upd_ne nc]; exact I.freeC x c q
  · obtain ⟨p1, p2, p3, p4, p5⟩ := I.pin p hp
    exact ⟨p1, by rw [upd_ne (np p hp)]; exact p2, p3, p4, p5⟩
  · by_cases hb : b = a
    · subst hb
      rw [upd_same] at q
      cases q
      exact kept_ok e z hd
    · rw [upd_ne hb] at q
      exact (I.hok b o q).stay (fun _ _ _ y => y) (fun c hc => by rw [upd_ne (ne_of_none hc na)]; exact hc) fun c xs hc => by rw [upd_ne (ne_of_none hc na)]; exact hc
/-- what the clause 'except x as n' wishes of an exception of the body, where the error is kept -/
def wKp (K : PySem.W.Frag) (c : Value) (i : Nat) (ts : Addr → Value → Option Addr → TS) (Wout : WX) (D : Ends) : WX := fun cls d σ H =>
  ∃ b, PySem.W.exmOne K cls c = some b ∧ (b = true → ∀ a, H a = none → ts a cls d { nx := fun σ' H' => D.nx (σ'.set i none) (upd H' a (kept a cls d)), rt := fun v H' => D.rt v (upd H' a (kept a cls d)), bk := fun σ' H' => D.bk (σ'.set i none) (upd H' a (kept a cls d)), ct := fun σ' H' => D.ct (σ'.set i none) (upd H' a (kept a cls d)) } (σ.set i (some (.ref a))) H) ∧
    (b = false → Wout cls d σ H)
section
variable {X : Cx} {x n : Str} {c : Value} {i : Nat} {body suite : List Stmt} {b₀ : Stmt} {np pos pos' : Pos} {tb : WX → TS} {ts : Addr → Value → Option Addr → TS} {Wout : WX}
theorem ps_try_keep (hs : X.stack = X.env :: X.outer) (hex : X.ex = []) (hf : X.env.frame = some X.env.locals) (hN : X.N.Nodup) (hi : X.N[i]? = some n) (hln : X.env.kindOf n = some .local) (hc : Names X x c) (tk : Takes X Wout)
    (hb : ∀ (W : WX) (pn : List (Addr × Obj)) (xe : Value → Shared → Prop), Takes (X.tr pn xe) W → PassesOwn (model X.prog X.w) X.A X.env xe → PSs (X.tr pn xe) body (tb W))
    (hsu : ∀ (a : Addr) (oe : Obj) (cls : Value) (d : Option Addr) (pn : List (Addr × Obj)), Zc cls d oe → (∃ vs, oe.data = .fields vs) → PSs (X.suite a ((a, oe) :: pn)) (b₀ :: suite) (ts a cls d)) :
    PS X (.Try body [.ExceptHandler (some (.Name x np)) (some n) (b₀ :: suite) pos'] [] [] pos) (fun D σ H => tb (wKp X.K c i ts Wout D) D σ H) := by
  refine ⟨fun pins s σ H D I h => ?_⟩
  have ok := I.ok
  have hfr : X.A.frames = some (X.env :: X.outer) := by rw [ok.frames, hs]
  have hloc : Loc X.env.scope n := .inl hln
  refine wpAny_Try_except ?_
  refine wpAny_mono ((hb (wKp X.K c i ts Wout D) (X.pn ++ pins) (fun e s₁ => wpAny (model X.prog X.w) X.A (noteFrame e X.env) (fun _ s₂ => wpAny (model X.prog X.w) X.A (setFlight e none) (fun _ s₃ =>
    wpAny (model X.prog X.w) X.A (handleBy e X.env [.ExceptHandler (some (.Name x np)) (some n) (b₀ :: suite) pos']) (SP X pins D) X.xe s₃) X.xe s₂) X.xe s₁) (fun u s' xx => ?_) PassesOwn.looking).run [] s σ H D (I.toTry _) h) (fun f s1 hsp => ?_) (fun e s1 he => he)
  · obtain ⟨a, B, sI, pins', σ', H', cls, d, rfl, J', nb, up, sky, na, os, ag, b, hb1, hyes, hno⟩ := xx
    have J : Inv X pins σ' H' sI := J'.ofTry ok
    have sky' : Sky B (X.env :: X.outer) a (Zc cls d) X.env.locals s'.heap := by rw [← hs]; exact sky
    show wpAny (model X.prog X.w) X.A (noteFrame (.ref a) X.env) _ _ _
    refine Sky.land Zc.steady hfr hf sky' fun h3 fl3 up3 => ?_
    have J3 : Inv X pins σ' H' { s' with heap := h3 } := J.landed nb fl3.1 (up.trans up3) os ag
    obtain ⟨oe3, vs3, he3, hz3, hd3⟩ := fl3.there
    have notFr : ∀ {h : Heap} {o : Obj} {vs : Array Value}, h.FunFrames B (X.env :: X.outer) → h.get? a = some o → o.data = .fields vs → a ∉ frs (X.env :: X.outer) := fun {h o vs} ff e dd hm => by
      obtain ⟨_, o', e', hnf⟩ := ff.mem hm
      rw [e] at e'; cases e'
      exact hnf _ dd
    have nfr := notFr fl3.2.2.1 he3 hd3
    have nL : a ≠ X.env.locals := fun z => nfr (List.mem_filterMap.mpr ⟨X.env, List.mem_cons_self, by rw [hf, z]⟩)
    have nF : a ∉ X.fs := fun hm => by
      obtain ⟨e, he, q⟩ := List.mem_filterMap.mp hm
      exact nfr (List.mem_filterMap.mpr ⟨e, List.mem_cons_of_mem _ he, q⟩)
    have nI : sI.heap.get? a = none := by
      cases e : sI.heap.get? a with
      | none => rfl
      | some o =>
        have z := nb a o e (by rw [hs]; exact nfr)
        rw [fl3.2.1] at z
        cases z
    have n0 : X.s_0.heap.get? a = none := by
      cases e : X.s_0.heap.get? a with
      | none => rfl
      | some o =>
        obtain ⟨o', e'⟩ := J.base.there a o e (by rw [hex]; exact fun z => nomatch z)
        rw [nI] at e'
        cases e'
    have npin : ∀ p ∈ X.pn ++ pins, p.1 ≠ a := fun p hp z => by
      obtain ⟨e, _⟩ := J.pin p hp
      rw [z, nI] at e
      cases e
    have S3 := J3.suite he3 hd3 na nL nF
    refine wpAny_handleBy_cons (codeAny_handlers_test ?_) (by intro q; cases q)
    have LT : PySem.W.Looks (model X.prog X.w) h3 (typeOf (.ref a)) cls := fun A Q E s k q => wpAny_typeOf_ref (k _ _ he3) (by rw [hz3.1]; exact q)
    have LM := PySem.W.exm_one (M := model X.prog X.w) (J3.kIn) LT hb1
    have test : ∀ {Q : Value → Shared → Prop} {E : Value → Shared → Prop}, Q c { s' with heap := h3 } → wpAny (model X.prog X.w) (X.A.mark (some (.ref a))) (eval (.Name x np) X.env) Q E { s' with heap := h3 } := fun {Q E} q => by
      obtain ⟨hg, hdbg, hm | ⟨hm, hv, hnn⟩⟩ := hc
      · exact ld_glob (X := X.suite a ((a, oe3) :: (X.pn ++ pins))) S3 hg hm q hdbg
      · exact ld_blt (X := X.suite a ((a, oe3) :: (X.pn ++ pins))) S3 hg hm hv q hnn hdbg
    refine test (LM.here ?_)
    cases b with
    | true =>
      refine codeAny_handlers_suite_as ?_
      refine HandSPX.lands_againZ fl3 fun h4 fl4 up4 => ?_
      have J4 : Inv X pins σ' H' { s' with heap := h4 } := J.landed nb fl4.1 ((up.trans up3).trans up4) os ag
      obtain ⟨oe4, vs4, he4, hz4, hd4⟩ := fl4.there
      have S4 := J4.suite he4 hd4 na nL nF
      refine store_ok (X := X.suite a ((a, oe4) :: (X.pn ++ pins))) (v := .ref a) S4 hN hi hloc rfl (fun s5 S5 => ?_) (.inr hln)
      refine wpAny_mono ((hsu a oe4 cls d (X.pn ++ pins) hz4 ⟨_, hd4⟩).run [] s5 _ H' _ S5 (hyes rfl a na)) (fun f s6 hsp => ?_) (fun _ _ z => False.elim z)
      have end_ : ∀ {σ6 : L2.St} {H6 : Hp} {Q : Shared → Prop}, Inv (X.suite a ((a, oe4) :: (X.pn ++ pins))) [] σ6 H6 s6 → (∀ s7, Inv X pins (σ6.set i none) (upd H6 a (kept a cls d)) s7 → Q s7) →
          wpAny (model X.prog X.w) X.A (do bindName X.env n .none; unbindBehindTheSuite X.env n pos') (fun _ s7 => Q s7) X.xe s6 := fun {σ6 H6 Q} S6 hq => by
        obtain ⟨p1, p2, _⟩ := S6.pin (a, oe4) (List.mem_append.mpr (.inl List.mem_cons_self))
        exact gone_ok (My.Inv.track (S6.unsuite ok) p1 hz4 hd4 p2 n0 nL npin) hN hi hln hq
      cases f with
      | next =>
        obtain ⟨σ6, H6, S6, q6⟩ := hsp
        exact end_ S6 fun s7 J7 => ⟨_, _, J7, q6⟩
      | brk =>
        obtain ⟨σ6, H6, S6, q6⟩ := hsp
        exact end_ S6 fun s7 J7 => ⟨_, _, J7, q6⟩
      | cont =>
        obtain ⟨σ6, H6, S6, q6⟩ := hsp
        exact end_ S6 fun s7 J7 => ⟨_, _, J7, q6⟩
      | ret u =>
        obtain ⟨v6, σ6, H6, S6, r6, q6⟩ := hsp
        exact end_ S6 fun s7 J7 => ⟨_, _, _, J7, r6, q6⟩
    | false =>
      show wpAny _ X.A (handleBy (.ref a) X.env []) _ _ _
      refine wpAny_handleBy_nil ?_
      obtain ⟨k1, k2, k3, oe, vs, T, oT, ts', he, hz, hd, h1, hr⟩ := id fl3
      unfold PySem.passOn
      refine wpAny_bind (wpAny_field he hd h1 ?_)
      rw [if_neg (show ¬ ((Value.ref T == Value.none) = true) from by simp)]
      have fin : wpAny (model X.prog X.w) X.A (setFlight (.ref a) X.env.frame) (fun _ s4 => wpAny (model X.prog X.w) X.A (throw (.ref a) : Sem Flow) (SP X pins D) X.xe s4) X.xe { s' with heap := h3 } := by
        rw [hf]
        refine HandSPX.setFlight_upZ fl3 fun h4 hh4 up4 => wpAny_throw (tk _ _ ?_)
        exact ⟨a, B, sI, pins, σ', H', cls, d, rfl, J, nb, (up.trans up3).trans up4, .inr (.inr (by rw [hs]; exact hh4)), na, os, ag, hno rfl⟩
      first
        | exact wpAny_bind (wpAny_pure (wpAny_bind fin))
        | exact wpAny_bind fin
  · cases f with
    | next =>
      obtain ⟨σ', H', J', q⟩ := hsp
      exact wpAny_execs_nil ⟨σ', H', J'.ofTry ok, q⟩
    | brk =>
      obtain ⟨σ', H', J', q⟩ := hsp
      exact ⟨σ', H', J'.ofTry ok, q⟩
    | cont =>
      obtain ⟨σ', H', J', q⟩ := hsp
      exact ⟨σ', H', J'.ofTry ok, q⟩
    | ret u =>
      obtain ⟨v, σ', H', J', r, q⟩ := hsp
      exact ⟨v, σ', H', J'.ofTry ok, r, q⟩
end
/-! ### isinstance of a kept error -/
/-- what the written part says of the class of an error -/
structure ErrC (K : PySem.W.Frag) (C : Addr) : Prop where
  hg : PySem.W.findIn K (.ref C) "__getattribute__" = some (some (.builtin "BaseException.__getattribute__"))
  hk : PySem.W.findIn K (.ref C) "__getattr__" = some none
  hs : PySem.W.subIn K (.ref C) (.type "BaseException") = some true
  hd : PySem.W.hasDictIn K C = true
  ha : PySem.W.findIn K (.ref C) "__class__" = some (some (.builtin "object.__class__"))
  hn : PySem.W.specialIn K (.builtin "object.__class__") "__get__" = some (some (.builtin "getset_descriptor.__get__"))
  ht : PySem.W.takesIn K (.builtin "object.__class__") = some true
  hm : PySem.W.mroIn K C (.type "object") = some true
theorem kept_at {X : Cx} {pins : List (Addr × Obj)} {σ : L2.St} {H : Hp} {s : Shared} {a C d : Addr} {fs : List (Str × V)} (I : Inv X pins σ H s) (e : H a = some (kept a (.ref C) (some d))) (ed : H d = some (.xd fs)) :
    ∃ oe od, PySem.W.InstAt s.heap a oe C (some od) := by
  obtain ⟨⟨oe, h1, hz, vs, hd⟩, _⟩ := (show ObjOk X.prog X.w H s.heap a (kept a (.ref C) (some d)) from I.hok a _ e)
  obtain ⟨mA, hns, _⟩ := (show ObjOk X.prog X.w H s.heap d (.xd fs) from I.hok d _ ed)
  obtain ⟨od, _, _, ho, _⟩ := hns
  exact ⟨oe, od, h1, hz.1, by unfold PySem.W.notCls; rw [hd] <;> rfl, by rw [hz.2]; exact ho⟩
theorem ErrC.kit {K : PySem.W.Frag} {C x : Addr} {ox : Obj} {od : Option Obj} (E : ErrC K C) : PySem.W.KitX K (.ref x) (.ref C) (fun h => PySem.W.InstAt h x ox C od) :=
  PySem.W.kitx_exc (by obtain ⟨cd, hc, _⟩ := PySem.W.any_some E.hd; rw [hc]; rfl) E.hg E.hk E.hs E.ha E.hn E.ht E.hm
/-- isinstance(e, c), e a kept error of the class C -/
def rIsX (K : PySem.W.Frag) : List V → Hp → VK → Prop := fun xs H Q => ∃ (a C d : Addr) (fs : List (Str × V)) (c : V) (u : Value) (b : Bool), xs = [.ref a, c] ∧ H a = some (kept a (.ref C) (some d)) ∧ H d = some (.xd fs) ∧ ErrC K C ∧ ClsV c u ∧ PySem.W.kitOne K (.ref C) u = some b ∧ Q (.bl b) H
/-- isinstance(e, (c1, c2, ..)) -/
def rIsXT (K : PySem.W.Frag) : List V → Hp → VK → Prop := fun xs H Q => ∃ (a C d : Addr) (fs : List (Str × V)) (tp : Addr) (cs : List V) (us : List Value) (b : Bool), xs = [.ref a, .ref tp] ∧ H a = some (kept a (.ref C) (some d)) ∧ H d = some (.xd fs) ∧ ErrC K C ∧ H tp = some (.tup cs) ∧ Paired ClsV cs us ∧ PySem.W.kitAny K (.ref C) us = some b ∧ Q (.bl b) H
section
variable {X : Cx}
theorem call_isX : CallR X (.builtin "isinstance") (rIsX X.K) := by
  intro pins s σ H xs us Q I r h
  obtain ⟨a, C, d, fs, c, u, b, rfl, ea, ed, E, k, e, q⟩ := h
  obtain ⟨u1, u2, rfl, r1, r2⟩ := vals2 r
  have e2 := k.eq r2
  subst e2
  cases (show u1 = Value.ref a from r1)
  obtain ⟨oe, od, J⟩ := kept_at I ea ed
  exact PySem.W.kia_one E.kit I.kIn J e (fun z => nomatch z) fun tk => ⟨.bl b, H, I.tok tk, rfl, q⟩
theorem call_isXT : CallR X (.builtin "isinstance") (rIsXT X.K) := by
  intro pins s σ H xs us Q I r h
  obtain ⟨a, C, d, fs, tp, cs, ws, b, rfl, ea, ed, E, hT, k, e, q⟩ := h
  obtain ⟨u1, u2, rfl, r1, r2⟩ := vals2 r
  cases (show u1 = Value.ref a from r1)
  cases (show u2 = Value.ref tp from r2)
  obtain ⟨oe, od, J⟩ := kept_at I ea ed
  obtain ⟨_, its, rv, o, h1, h2, n, h3⟩ := (show ObjOk X.prog X.w H s.heap tp (.tup cs) from I.hok tp _ hT)
  have e3 := ClsV.all k rv
  subst e3
  obtain ⟨oc, od', dt, sl⟩ := o
  simp only at h2 h3
  subst h2 h3
  exact PySem.W.kia_tup E.kit I.kIn J h1 e (fun z => nomatch z) fun tk => ⟨.bl b, H, I.tok tk, rfl, q⟩
end
/-! ### defs that raise, called by name -/
structure CalX (P : Program) (w : World) (K : PySem.W.Frag) (mg : Str → Option Value) (base : Heap) (x : Str) (k : Nat) (ps : List Str) (sp : Sp) : Prop where
  ex : ∃ (f : Addr) (fd : FuncData), FnOk P w K mg base (L2.CX P w) k f fd ps sp ∧ mg x = some (.ref f) ∧ PySem.W.keepIn K (.ref f) = true ∧ Binds K fd ps []
theorem pe_calX {X : Cx} {x : Str} {k : Nat} {ps : List Str} {sp : Sp} {e : Expr} {es : List Expr} {t : TA} {W : WX} {p pos : Pos} (C : CalX X.prog X.w X.K X.mg X.base x k ps sp) (hr : Room k X.A) (tk : Takes X W)
    (ha : PA X (e :: es) t) (hg : Gl X x := by rfl) (hdb : (x == ("__debug__" : Str)) = false := by decide) (he : starEach (e :: es) X.env = (false, eval e X.env) :: starEach es X.env := by rfl) (hpl : (backTo pos (starEach es X.env)).any (·.1) = false := by rfl) :
    PE X (.Call (.Name x p) (e :: es) [] pos) (tCallS sp (WE W) t) := by
  obtain ⟨f, fd, G, g, kp, b⟩ := C.ex
  exact pe_callS G hr hg g kp b (fun σ => passAt tk σ) ha hdb he hpl
/-! ### own errors of one field -/
/-- what __init__ keeps -/
def spErr (C : Addr) (f : Str) : Sp := fun vs H Q _ => ∃ (a : Addr) (v : V), vs = [.ref a, v] ∧ H a = some (exo a C none) ∧ ∀ dx, H dx = none → dx ≠ a → Q .non (upd (upd H dx (exd dx [(f, v)])) a (exo a C (some dx)))
/-- the class of errors by the name x, its field f -/
structure ErrK (P : Program) (w : World) (K : PySem.W.Frag) (mg : Str → Option Value) (base : Heap) (x f : Str) : Prop where
  ex : ∃ (C fI : Addr) (fd : FuncData), PySem.W.nsIn K mainGlobals x = some (some (.ref C)) ∧ mg x = some (.ref C) ∧ OexC K C ∧ PySem.W.findIn K (.ref C) "__init__" = some (some (.ref fI)) ∧ PySem.W.typeIn K (.ref fI) = some (.type "function") ∧
    FnOk P w K mg base CX0 1 fI fd ["self", f] (spErr C f) ∧ Binds K fd ["self", f] []
/-- an error of the class by the name x may leave, its field f, all else as it was -/
def Lets (K : PySem.W.Frag) (x f : Str) (H : Hp) (E : XK) : Prop := ∀ (C d : Addr) (v : V) (H1 : Hp), PySem.W.nsIn K mainGlobals x = some (some (.ref C)) → Same H H1 → H1 d = none → E (.ref C) (some d) (upd H1 d (.xd [(f, v)]))
theorem Lets.same {K : PySem.W.Frag} {x f : Str} {H H2 : Hp} {E : XK} (l : Lets K x f H E) (s : Same H H2) : Lets K x f H2 E := fun C d v H1 h1 h2 h3 => l C d v H1 h1 (s.trans h2) h3
section
variable {X : Cx} {x f : Str} {e : Expr} {te : TE} {p pos : Pos}
theorem PE.more (he : PE X e te) : PE X e (fun σ H Q => ∃ Q1 : VK, te σ H Q1 ∧ ∀ v H1, Q1 v H1 → Q v H1) :=
  ⟨fun pins s σ H Q I ⟨Q1, h, k⟩ => wpAny_mono (he.run pins s σ H Q1 I h) (fun _ _ ⟨v, H', I', r, q⟩ => ⟨v, H', I', r, k _ _ q⟩) fun _ _ z => z⟩
theorem pmk_err (R : ErrK X.prog X.w X.K X.mg X.base x f) (hr : Room 2 X.A) (ha : PE X e te) (hg : Gl X x := by rfl) (hdb : (x == ("__debug__" : Str)) = false := by decide)
    (he : starEach (e :: []) X.env = (false, eval e X.env) :: starEach [] X.env := by rfl) (hpl : (backTo pos (starEach [] X.env)).any (·.1) = false := by rfl) :
    PMk X (.Call (.Name x p) [e] [] pos) (fun σ H Q => te σ H fun v H1 => ∀ C d, PySem.W.nsIn X.K mainGlobals x = some (some (.ref C)) → H1 d = none → Q (.ref C) (some d) (upd H1 d (.xd [(f, v)]))) := by
  obtain ⟨C, fI, fd, aC, gC, T, iC, tI, F, b⟩ := R.ex
  intro pins s σ H Q I h
  refine pmk_oex (dvs := []) (ds := []) T iC tI F hr b .nil pass0 hg gC (pa_cons (PE.more ha) pa_nil (hs := he)) hdb he hpl pins s σ H Q I ⟨_, h, fun v H1 q => ?_⟩
  refine ⟨(by show 1 ≤ 1000; decide), fun a na => ⟨a, v, rfl, upd_same, fun dx hd ne => ⟨rfl, dx, [(f, v)], upd_same, ?_, ?_, ?_⟩⟩⟩
  · rw [upd_ne ne, upd_same]
  · rw [upd_ne ne] at hd; exact hd
  · rw [upd_ne ne] at hd
    have z := q C dx aC hd
    have eq : upd (del (upd (upd (upd H1 a (exo a C none)) dx (exd dx [(f, v)])) a (exo a C (some dx))) a) dx (.xd [(f, v)]) = upd H1 dx (.xd [(f, v)]) := by
      funext c
      by_cases h1 : c = dx
      · rw [h1, upd_same, upd_same]
      · rw [upd_ne h1, upd_ne h1]
        by_cases h2 : c = a
        · rw [h2, del_same, na]
        · rw [del_ne h2, upd_ne h2, upd_ne h1, upd_ne h2]
    rw [eq]
    exact z
end
section
variable {X : Cx} {x : Str} {k : Nat} {ps : List Str} {sp : Sp} {e : Expr} {es : List Expr} {t : TA} {p pos : Pos}
/-- a def that may raise, called where it doesn't -/
theorem pe_calX0 (C : CalX X.prog X.w X.K X.mg X.base x k ps sp) (hr : Room k X.A)
    (ha : PA X (e :: es) t) (hg : Gl X x := by rfl) (hdb : (x == ("__debug__" : Str)) = false := by decide) (he : starEach (e :: es) X.env = (false, eval e X.env) :: starEach es X.env := by rfl) (hpl : (backTo pos (starEach es X.env)).any (·.1) = false := by rfl) :
    PE X (.Call (.Name x p) (e :: es) [] pos) (tCall sp [] E0 t) := by
  obtain ⟨f, fd, G, g, kp, b⟩ := C.ex
  exact pe_call G hr hg g kp b .nil passL ha hdb he hpl
end
theorem exm_own {K : PySem.W.Frag} {C : Addr} {cls : Value} {b : Bool} (h1 : PySem.W.subIn K (.ref C) (.type "BaseException") = some true) (hdct : PySem.W.hasDictIn K C = true) (ht : PySem.W.typeIn K (.ref C) = some (.type "type")) (h4 : PySem.W.subIn K cls (.ref C) = some b) : PySem.W.exmOne K cls (.ref C) = some b := by
  obtain ⟨cd, hc, _⟩ := PySem.W.any_some hdct
  have e1 : (PySem.W.subIn K (.ref C) (.type "BaseException") == some true) = true := by rw [h1] <;> rfl
  have e2 : ((PySem.W.clsIn K C).isSome && PySem.W.typeIn K (.ref C) == some (.type "type")) = true := by rw [hc, ht] <;> rfl
  show (if (PySem.W.subIn K (.ref C) (.type "BaseException") == some true) = true then (if ((PySem.W.clsIn K C).isSome && PySem.W.typeIn K (.ref C) == some (.type "type")) = true then PySem.W.subIn K cls (.ref C) else none) else none) = some b
  rw [if_pos e1, if_pos e2]
  exact h4
/-- one class stands by a name -/
theorem ns_one {K : PySem.W.Frag} {x : Str} {C D : Addr} (h : PySem.W.nsIn K mainGlobals x = some (some (.ref C))) (k : PySem.W.nsIn K mainGlobals x = some (some (.ref D))) : C = D := by
  rw [h] at k
  cases k
  rfl
/-! ### a field of a kept error -/
def tKf (K : PySem.W.Frag) (n : Str) (te : TE) : TE := fun σ H Q => te σ H fun x H1 => ∃ (a C d : Addr) (fs : List (Str × V)) (v : V), x = .ref a ∧ H1 a = some (kept a (.ref C) (some d)) ∧ H1 d = some (.xd fs) ∧ ErrC K C ∧ PySem.W.findIn K (.ref C) n = some none ∧ fs.lookup n = some v ∧ Q v H1
theorem pe_kf {X : Cx} {e : Expr} {te : TE} {pos : Pos} {n : Str} (he : PE X e te) (hb : attributeBase e n X.env (eval e X.env) = eval e X.env := by rfl) : PE X (.Attribute e n pos) (tKf X.K n te) := by
  refine ⟨fun pins s σ H Q I h => ?_⟩
  refine attr_of hb (thn (he.run pins s σ H _ I h) fun u s1 ⟨x, H1, I1, rx, q⟩ => ?_)
  obtain ⟨a, C, d, fs, v, rfl, ea, ed, E, hno, l, q⟩ := q
  obtain rfl : u = Value.ref a := rx
  obtain ⟨⟨oe, h1, hz, vs, hd⟩, _⟩ := (show ObjOk X.prog X.w H1 s1.heap a (kept a (.ref C) (some d)) from I1.hok a _ ea)
  obtain ⟨mA, hns, hr⟩ := (show ObjOk X.prog X.w H1 s1.heap d (.xd fs) from I1.hok d _ ed)
  obtain ⟨od, ho, hl⟩ := lookIn_ns hns
  obtain ⟨w, hu, ru⟩ := RelO.some_of (v := v) (o := mA n) (by rw [← l]; exact hr n)
  have J : PySem.W.InstAt s1.heap a oe C (some od) := ⟨h1, hz.1, by unfold PySem.W.notCls; rw [hd] <;> rfl, by rw [hz.2]; exact ho⟩
  exact HandSPX.exc_get I1.kIn J E.hg E.hk E.hs (PySem.W.findObj_own E.hd hno rfl (by rw [hl, hu])) (handed_of ru) ⟨v, H1, I1.tok _, ru, q⟩
/-! ### an own class and its methods, by its name -/
/-- the instance of the class by the name x at a, its fields fs -/
def InsOf (K : PySem.W.Frag) (x : Str) (H : Hp) (a : Addr) (fs : List (Str × V)) : Prop := ∃ C dx, PySem.W.nsIn K mainGlobals x = some (some (.ref C)) ∧ H a = some (.ins C dx fs)
/-- the class by the name x can be made without arguments, its __init__ keeping sp -/
structure MkN (P : Program) (w : World) (K : PySem.W.Frag) (mg : Str → Option Value) (base : Heap) (x : Str) (k : Nat) (sp : Sp) : Prop where
  ex : ∃ (C f : Addr) (fd : FuncData), PySem.W.nsIn K mainGlobals x = some (some (.ref C)) ∧ mg x = some (.ref C) ∧ L2.Mk K C f ∧ FnOk P w K mg base CX0 k f fd ["self"] sp ∧ Binds K fd ["self"] []
def tMkN (K : PySem.W.Frag) (x : Str) (sp : Sp) : TE := fun σ H Q => ∀ C, PySem.W.nsIn K mainGlobals x = some (some (.ref C)) → ∀ a dx, H a = none → H dx = none → dx ≠ a → sp [.ref a] (upd (upd H dx (.own a)) a (.ins C dx [])) (fun v H2 => v = .non ∧ Q (.ref a) H2) E0
/-- the method m of the class by the name x -/
structure MthN (c : CXT) (P : Program) (w : World) (K : PySem.W.Frag) (mg : Str → Option Value) (base : Heap) (x m : Str) (k : Nat) (ps : List Str) (dvs : List V) (sp : Sp) : Prop where
  ex : ∃ (C g : Addr) (fd : FuncData) (ds : List Value), PySem.W.nsIn K mainGlobals x = some (some (.ref C)) ∧ Cls K C ∧ Meth K C m g ∧ FnOk P w K mg base c k g fd ps sp ∧ Vals dvs ds ∧ Binds K fd ps ds
def tMthN (K : PySem.W.Frag) (x m : Str) (sp : Sp) (dvs : List V) (E : L2.St → XK) (to : TE) (t : TA) : TE := fun σ H Q => to σ H fun v H1 => ∃ (a : Addr) (fs : List (Str × V)), v = .ref a ∧ InsOf K x H1 a fs ∧ fs.lookup m = none ∧ t σ H1 fun vs H2 => sp (v :: (vs ++ dvs)) H2 Q (E σ)
section
variable {X : Cx} {x m : Str} {k : Nat} {ps : List Str} {dvs : List V} {sp : Sp} {o e : Expr} {es : List Expr} {to : TE} {t : TA} {W : WX} {apos pos p : Pos} {pl : Sem Bool}
theorem pe_mkN (M : MkN X.prog X.w X.K X.mg X.base x k sp) (hr : Room (k + 1) X.A) (hg : Gl X x := by rfl) (hdb : (x == ("__debug__" : Str)) = false := by decide) : PE X (.Call (.Name x p) [] [] pos) (tMkN X.K x sp) := by
  obtain ⟨C, f, fd, hC, hm, mk, F, b⟩ := M.ex
  exact ⟨fun pins s σ H Q I h => (pe_make0 mk F hr hg hm b .nil pass0 hdb).run pins s σ H Q I fun a dx h1 h2 h3 => h C hC a dx h1 h2 h3⟩
theorem pe_mthNc {c : CXT} {E : L2.St → XK} (M : MthN c X.prog X.w X.K X.mg X.base x m k ps dvs sp) (room : Room k X.A) (tk : ∀ σ, PassesAt c X σ (E σ)) (recv : PE X o to) (args : PA X (e :: es) t)
    (h1 : starEach (e :: es) X.env = (false, eval e X.env) :: starEach es X.env := by rfl) (h2 : (backTo pos (starEach es X.env)).any (·.1) = false := by rfl)
    (h3 : eval (.Call (.Attribute o m apos) (e :: es) [] pos) X.env = (do
      let there ← eval o X.env
      standAt apos.atName
      let (fn, own) ← holding [there] (getMethod there m pl)
      callWith pos fn own (backTo pos (starEach (e :: es) X.env)) (backToKw pos (keywordEach [] X.env))) := by rfl) :
    PE X (.Call (.Attribute o m apos) (e :: es) [] pos) (tMthN X.K x m sp dvs E to t) := by
  obtain ⟨C, g, fd, ds, hC, cls, meth, fn, dv, bi⟩ := M.ex
  refine ⟨fun pins s σ H Q inv want => ?_⟩
  refine PySem.W.methodCall_KW (pl := pl) (thn (recv.run pins s σ H _ inv want) fun u s1 got => ?_) h3
  obtain ⟨y, H1, inv1, rel1, i, fs, ex, ⟨C', dx, hC', at1⟩, free1, want1⟩ := got
  cases ns_one hC hC'
  subst ex
  obtain rfl : u = Value.ref i := rel1
  refine getmeth_ok inv1 at1 cls meth free1 ?_
  refine PySem.W.callWith_K (first := [.ref i]) (h₀ := X.base) inv.ok.mod.kin meth.kp (thn (args.run pos pins s1 σ H1 _ inv1 want1) fun us s2 got => ?_) h1 h2
  obtain ⟨vs, H2, inv2, rels, want2⟩ := got
  exact ⟨inv2.kIn, run_fnSD (E := E) (us := .ref i :: us) (vs := .ref i :: vs) fn room bi dv (tk σ) inv2 (.cons rfl rels) want2⟩
theorem pe_mthN0c {c : CXT} {E : L2.St → XK} (M : MthN c X.prog X.w X.K X.mg X.base x m k ps dvs sp) (room : Room k X.A) (tk : ∀ σ, PassesAt c X σ (E σ)) (recv : PE X o to)
    (h3 : eval (.Call (.Attribute o m apos) [] [] pos) X.env = (do
      let there ← eval o X.env
      standAt apos.atName
      let (fn, own) ← holding [there] (getMethod there m pl)
      callWith pos fn own (backTo pos (starEach [] X.env)) (backToKw pos (keywordEach [] X.env))) := by rfl) :
    PE X (.Call (.Attribute o m apos) [] [] pos) (tMthN X.K x m sp dvs E to tNil) := by
  obtain ⟨C, g, fd, ds, hC, cls, meth, fn, dv, bi⟩ := M.ex
  refine ⟨fun pins s σ H Q inv want => ?_⟩
  refine PySem.W.methodCall_KW (pl := pl) (thn (recv.run pins s σ H _ inv want) fun u s1 got => ?_) h3
  obtain ⟨y, H1, inv1, rel1, i, fs, ex, ⟨C', dx, hC', at1⟩, free1, want1⟩ := got
  cases ns_one hC hC'
  subst ex
  obtain rfl : u = Value.ref i := rel1
  refine getmeth_ok inv1 at1 cls meth free1 ?_
  exact PySem.W.callWith_K0 (first := [.ref i]) inv1.kIn meth.kp (run_fnSD (E := E) (us := [.ref i]) (vs := [.ref i]) fn room bi dv (tk σ) inv1 (.cons rfl .nil) want1)
/-- a method that never raises -/
theorem pe_mthN (M : MthN CX0 X.prog X.w X.K X.mg X.base x m k ps dvs sp) (room : Room k X.A) (recv : PE X o to) (args : PA X (e :: es) t)
    (h1 : starEach (e :: es) X.env = (false, eval e X.env) :: starEach es X.env := by rfl) (h2 : (backTo pos (starEach es X.env)).any (·.1) = false := by rfl)
    (h3 : eval (.Call (.Attribute o m apos) (e :: es) [] pos) X.env = (do
      let there ← eval o X.env
      standAt apos.atName
      let (fn, own) ← holding [there] (getMethod there m pl)
      callWith pos fn own (backTo pos (starEach (e :: es) X.env)) (backToKw pos (keywordEach [] X.env))) := by rfl) :
    PE X (.Call (.Attribute o m apos) (e :: es) [] pos) (tMthN X.K x m sp dvs (fun _ => E0) to t) := pe_mthNc M room (fun σ pins H s e s' I c => pass0 pins σ H s e s' I c) recv args h1 h2 h3
/-- a method that may raise, in a suite that takes it -/
theorem pe_mthXN (M : MthN (L2.CX X.prog X.w) X.prog X.w X.K X.mg X.base x m k ps dvs sp) (room : Room k X.A) (tk : Takes X W) (recv : PE X o to) (args : PA X (e :: es) t)
    (h1 : starEach (e :: es) X.env = (false, eval e X.env) :: starEach es X.env := by rfl) (h2 : (backTo pos (starEach es X.env)).any (·.1) = false := by rfl)
    (h3 : eval (.Call (.Attribute o m apos) (e :: es) [] pos) X.env = (do
      let there ← eval o X.env
      standAt apos.atName
      let (fn, own) ← holding [there] (getMethod there m pl)
      callWith pos fn own (backTo pos (starEach (e :: es) X.env)) (backToKw pos (keywordEach [] X.env))) := by rfl) :
    PE X (.Call (.Attribute o m apos) (e :: es) [] pos) (tMthN X.K x m sp dvs (WE W) to t) := pe_mthNc M room (fun σ => passAt tk σ) recv args h1 h2 h3
/-- .. where it doesn't raise -/
theorem pe_mthX0 (M : MthN (L2.CX X.prog X.w) X.prog X.w X.K X.mg X.base x m k ps dvs sp) (room : Room k X.A) (recv : PE X o to) (args : PA X (e :: es) t)
    (h1 : starEach (e :: es) X.env = (false, eval e X.env) :: starEach es X.env := by rfl) (h2 : (backTo pos (starEach es X.env)).any (·.1) = false := by rfl)
    (h3 : eval (.Call (.Attribute o m apos) (e :: es) [] pos) X.env = (do
      let there ← eval o X.env
      standAt apos.atName
      let (fn, own) ← holding [there] (getMethod there m pl)
      callWith pos fn own (backTo pos (starEach (e :: es) X.env)) (backToKw pos (keywordEach [] X.env))) := by rfl) :
    PE X (.Call (.Attribute o m apos) (e :: es) [] pos) (tMthN X.K x m sp dvs (fun _ => E0) to t) := pe_mthNc M room (fun σ pins H s e s' I c => passL pins σ H s e s' I c) recv args h1 h2 h3
/-- a field, the fragment named (in a comprehension's block) -/
theorem pe_fldK {X : Cx} {K : PySem.W.Frag} {e : Expr} {ta : TE} {f : Str} {pos : Pos} (he : PE X e ta) (hK : X.K = K := by rfl) (hb : attributeBase e f X.env (eval e X.env) = eval e X.env := by rfl) : PE X (.Attribute e f pos) (tFld K ta f) := by
  subst hK
  exact pe_fld he hb
end
section
variable {X : Cx} {K : PySem.W.Frag} {x m : Str} {k : Nat} {ps : List Str} {dvs : List V} {sp : Sp} {o e : Expr} {es : List Expr} {to : TE} {t : TA} {W : WX} {apos pos p : Pos} {pl : Sem Bool}
/-- .. the fragment named: in a suite its place and what catches are no part of the reading -/
theorem pe_mthXNK (M : MthN (L2.CX X.prog X.w) X.prog X.w K X.mg X.base x m k ps dvs sp) (room : Room k X.A) (tk : Takes X W) (recv : PE X o to) (args : PA X (e :: es) t) (hK : X.K = K := by rfl)
    (h1 : starEach (e :: es) X.env = (false, eval e X.env) :: starEach es X.env := by rfl) (h2 : (backTo pos (starEach es X.env)).any (·.1) = false := by rfl)
    (h3 : eval (.Call (.Attribute o m apos) (e :: es) [] pos) X.env = (do
      let there ← eval o X.env
      standAt apos.atName
      let (fn, own) ← holding [there] (getMethod there m pl)
      callWith pos fn own (backTo pos (starEach (e :: es) X.env)) (backToKw pos (keywordEach [] X.env))) := by rfl) :
    PE X (.Call (.Attribute o m apos) (e :: es) [] pos) (tMthN K x m sp dvs (WE W) to t) := by
  subst hK
  exact pe_mthXN M room tk recv args h1 h2 h3
end
section
variable {X : Cx} {K : PySem.W.Frag} {x m : Str} {k : Nat} {ps : List Str} {dvs : List V} {sp : Sp} {o e : Expr} {es : List Expr} {to : TE} {t : TA} {apos pos p : Pos} {pl : Sem Bool}
/-- a method that never raises, the fragment named (in a comprehension's block) -/
theorem pe_mthNK (M : MthN CX0 X.prog X.w K X.mg X.base x m k ps dvs sp) (room : Room k X.A) (recv : PE X o to) (args : PA X (e :: es) t) (hK : X.K = K := by rfl)
    (h1 : starEach (e :: es) X.env = (false, eval e X.env) :: starEach es X.env := by rfl) (h2 : (backTo pos (starEach es X.env)).any (·.1) = false := by rfl)
    (h3 : eval (.Call (.Attribute o m apos) (e :: es) [] pos) X.env = (do
      let there ← eval o X.env
      standAt apos.atName
      let (fn, own) ← holding [there] (getMethod there m pl)
      callWith pos fn own (backTo pos (starEach (e :: es) X.env)) (backToKw pos (keywordEach [] X.env))) := by rfl) :
    PE X (.Call (.Attribute o m apos) (e :: es) [] pos) (tMthN K x m sp dvs (fun _ => E0) to t) := by
  subst hK
  exact pe_mthN M room recv args h1 h2 h3
end
/-! ### comprehensions whose parts leave what stands as it was -/
theorem lc_gen {J : It} {n : Nat} {G : Hp → Prop} {Y : Nat → Hp → V → Hp → Prop} (w : Walk J n G Y) {g : TG} {tt : TT} {te : TE} {vs : List Nat} {σ : L2.St} {H1 : Hp} {D : Addr} {Qd : Hp → Prop}
    (keep : Nat → Bool) (fv : Nat → V) (hD : H1 D = none) (hn : n < sizeLine) (hG : ∀ H, Same H1 H → G H)
    (hs : ∀ i x H H', i < n → Same H1 H → Y i H x H' → ∀ (k : VK) (m : Hp → Prop), (keep i = true → ∀ H4, Same H H4 → k (fv i) H4) → (keep i = false → ∀ H4, Same H H4 → m H4) →
      g x (wipe σ vs) H' fun σ2 H2 => wipe σ2 vs = wipe σ vs ∧ tt σ2 H2 fun b H3 => if b = true then te σ2 H3 k else m H3)
    (hd : ∀ H, Same H1 H → H D = some (.lst (((List.range n).filter keep).map fv)) → Qd H) :
    ∃ W : Nat → Nat → Hp → Prop, (∃ m, W 0 m (upd H1 D (.lst []))) ∧ ∀ i m H, W i m H →
      (J.stop i H ∧ Qd H) ∨ (J.go i H ∧ ∃ Nx : Hp → Prop, (∀ H', Nx H' → ∃ m', m' < m ∧ W (i + 1) m' H') ∧ ∀ x H', J.yld i H x H' → g x (wipe σ vs) H' fun σ2 H2 => wipe σ2 vs = wipe σ vs ∧ tt σ2 H2 fun b H3 =>
        if b = true then te σ2 H3 fun y H4 => ∃ acc, H4 D = some (.lst acc) ∧ acc.length < sizeLine ∧ Nx (upd H4 D (.lst (acc ++ [y]))) else Nx H3) := by
  have len : ∀ i, (((List.range i).filter keep).map fv).length ≤ i := fun i => by
    rw [List.length_map]
    exact Nat.le_trans (List.length_filter_le _ _) (by rw [List.length_range]; exact Nat.le_refl _)
  have ext : ∀ i, ((List.range (i + 1)).filter keep).map fv = ((List.range i).filter keep).map fv ++ (if keep i = true then [fv i] else []) := fun i => by
    rw [List.range_succ, List.filter_append, List.map_append]
    congr 1
    cases h : keep i <;> simp [h]
  refine lc_it w (fun i H => Same H1 H ∧ H D = some (.lst (((List.range i).filter keep).map fv))) ⟨same_new hD, upd_same⟩ (fun i H _ p => hG H p.1) (fun i x H H' hi p y => ?_) (fun H p => hd H p.1 p.2)
  refine hs i x H H' hi p.1 y _ _ (fun hk H4 s4 => ?_) (fun hk H4 s4 => ⟨p.1.trans s4, ?_⟩)
  · refine ⟨_, s4 _ _ p.2, Nat.lt_of_le_of_lt (len i) (by omega), fun b o e => ?_, ?_⟩
    · rw [upd_ne (ne_of_none e hD)]
      exact s4 _ _ (p.1 b o e)
    · rw [upd_same, ext, if_pos hk]
  · rw [ext, hk, if_neg Bool.false_ne_true, List.append_nil]
    exact s4 _ _ p.2
theorem range_at {α β : Type} {f : α → β} {b : β} : ∀ {l : List α}, (List.range l.length).map (fun i => ((l[i]?).map f).getD b) = l.map f := fun {l} => by
  apply List.ext_getElem?
  intro i
  rw [List.getElem?_map, List.getElem?_map]
  by_cases h : i < l.length
  · rw [List.getElem?_range h, List.getElem?_eq_getElem h]; simp [List.getElem?_eq_getElem h]
  · rw [List.getElem?_eq_none (by simp; omega), List.getElem?_eq_none (by omega)]; rfl
theorem filt_true {n : Nat} : (List.range n).filter (fun _ => true) = List.range n := by simp
theorem filt_none {n : Nat} {keep : Nat → Bool} {fv : Nat → V} : (((List.range n).filter keep).map fv).isEmpty = (List.range n).all fun i => !keep i := by
  rw [Bool.eq_iff_iff, List.isEmpty_map, List.isEmpty_iff, List.filter_eq_nil_iff, List.all_eq_true]
  simp
theorem all_at {α : Type} {f : α → Bool} {b : Bool} {l : List α} : ((List.range l.length).all fun i => ((l[i]?).map f).getD b) = (l.map f).all id := by
  rw [← range_at (f := f) (b := b), List.all_map]; rfl
/-! ### defs that show data: their callers' guards are told -/
structure FnG (P : Program) (w : World) (K : PySem.W.Frag) (mg : Str → Option Value) (base : Heap) (k : Nat) (f : Addr) (fd : FuncData) (ps : List Str) (sp : Sp) : Prop where
  len : ∀ vs H Q E, sp vs H Q E → vs.length = ps.length
  run : ∀ (A : Around) (outer : List Env) (s : Shared) (H : Hp) (args : Args) (us : List Value) (vs : List V) (Q : VK), Room k A → A.guards = some [] → Env0 P w K mg base A outer s H → BindsTo s fd args (ps.zip us) → Vals vs us →
    sp vs H Q (fun _ _ _ => False) → codeAny (model P w) A (.call (.ref f) args) (CR CX0 outer P w H s Q fun _ _ _ => False) s
theorem fun_okG {P : Program} {w : World} {K : PySem.W.Frag} {mg : Str → Option Value} {base : Heap} {x qual : Str} {st : Stmt} {f : Addr} {fd : FuncData} {N ps : List Str} {k : Nat} {sp : Sp} (F : Fun K x qual st f fd) (S : FnScope N ps (defScope st)) (len : ∀ vs H Q E, sp vs H Q E → vs.length = ps.length)
    (hbody : ∀ (cdv : Value) (A : Around) (outer : List Env) (s : Shared) (H : Hp) (vs : List V) (Q : VK), Room k (A.deeper (envOfC qual (defScope st) s.heap.objs.size f cdv)) → (A.deeper (envOfC qual (defScope st) s.heap.objs.size f cdv)).guards = some [] → sp vs H Q (fun _ _ _ => False) →
      ∃ t, PSs (cxOf CX0 P w K mg base N qual (defScope st) f cdv A outer s H (fun _ _ _ => False)).nox (defBody st) t ∧ t { nx := fun _ H' => Q .non H', rt := Q } (start N vs) H) : FnG P w K mg base (k + 1) f fd ps sp := by
  obtain ⟨oc, od, kV, doc, pm, an, cdv, ct, osl, rfl, lk, hcd⟩ := F.ex
  refine ⟨len, fun A outer s H args us vs Q hr gd e0 hb rv hsp => ?_⟩
  obtain ⟨t, h, q⟩ := hbody cdv A outer s H vs Q (Room.deeper hr _) gd hsp
  exact body_at (N := N) (ps := ps) lk hcd S (len _ _ _ _ hsp) hr e0 hb rv ⟨t, h.nox, q⟩
structure CalG (P : Program) (w : World) (K : PySem.W.Frag) (mg : Str → Option Value) (base : Heap) (x : Str) (k : Nat) (ps : List Str) (sp : Sp) : Prop where
  ex : ∃ (f : Addr) (fd : FuncData), FnG P w K mg base k f fd ps sp ∧ mg x = some (.ref f) ∧ PySem.W.keepIn K (.ref f) = true ∧ Binds K fd ps []
theorem pe_calG {X : Cx} {x : Str} {k : Nat} {ps : List Str} {sp : Sp} {e : Expr} {es : List Expr} {t : TA} {p pos : Pos} (C : CalG X.prog X.w X.K X.mg X.base x k ps sp) (hr : Room k X.A) (gd : X.A.guards = some [])
    (ha : PA X (e :: es) t) (hg : Gl X x := by rfl) (hdb : (x == ("__debug__" : Str)) = false := by decide) (he : starEach (e :: es) X.env = (false, eval e X.env) :: starEach es X.env := by rfl) (hpl : (backTo pos (starEach es X.env)).any (·.1) = false := by rfl) :
    PE X (.Call (.Name x p) (e :: es) [] pos) (tCall sp [] E0 t) := by
  obtain ⟨f, fd, F, hm, hk, hb⟩ := C.ex
  refine ⟨fun pins s σ H Q I h => ?_⟩
  refine wpAny_Call_Name_kw (ld_glob I hg hm ?_ hdb)
  refine PySem.W.callWith_K (h₀ := X.base) I.ok.mod.kin hk (thn (ha.run pos pins s σ H _ I h) fun us s1 ⟨vs, H1, I1, r, q⟩ => ⟨I1.kIn, ?_⟩) he hpl
  have q : sp vs H1 Q E0 := by
    have z : sp (vs ++ []) H1 Q E0 := q
    rw [List.append_nil] at z
    exact z
  have hl : us.length = ps.length := by rw [← r.length]; exact F.len _ _ _ _ q
  have b := hb s1 us I1.kIn (by rw [List.append_nil]; exact hl)
  rw [List.append_nil] at b
  refine wpAny_call (codeAny_mono (F.run X.A X.stack s1 H1 ⟨us, []⟩ us vs Q hr gd I1.env0 b r q) fun r s' hq => ?_)
  cases r with
  | error e => exact pass0 pins σ H1 s1 e s' I1 hq
  | ok fl =>
    cases fl with
    | ret u => exact I1.after hq
    | next => exact False.elim hq
    | brk => exact False.elim hq
    | cont => exact False.elim hq
/-- as Fun.ok, for a def with defaults -/
theorem fun_okD {P : Program} {w : World} {K : PySem.W.Frag} {mg : Str → Option Value} {base : Heap} {x qual : Str} {params : Arguments} {body : List Stmt} {scope : Scope} {dvs : List V} {kws : List (Str × V)} {f : Addr} {fd : FuncData} {N ps : List Str} {k : Nat} {sp : Sp} (F : FunD K x qual params body scope dvs kws f fd) (S : FnScope N ps scope) (len : ∀ vs H Q E, sp vs H Q E → vs.length = ps.length)
    (hbody : ∀ (cdv : Value) (A : Around) (outer : List Env) (s : Shared) (H : Hp) (vs : List V) (Q : VK) (E : XK), Room k (A.deeper (envOfC qual scope s.heap.objs.size f cdv)) → sp vs H Q E →
      ∃ t, PSs (cxOf CX0 P w K mg base N qual scope f cdv A outer s H E).nox body t ∧ t { nx := fun _ H' => Q .non H', rt := Q } (start N vs) H) : FnOk P w K mg base CX0 (k + 1) f fd ps sp :=
  F.ok S len fun cdv A outer s H vs Q E hr hsp => by
    obtain ⟨t, h, q⟩ := hbody cdv A outer s H vs Q E hr hsp
    exact ⟨t, h.nox, q⟩

/-! ### bits field by field -/
structure Dec (b a F D s m k : Int) : Prop where
  e : b = a + F * 4096 + D * 16777216 + s * 268435456 + m * 4294967296 + k * 2199023255552
  a0 : 0 ≤ a
  a1 : a ≤ 4095
  F0 : 0 ≤ F
  F1 : F ≤ 4095
  D0 : 0 ≤ D
  D1 : D ≤ 15
  s0 : 0 ≤ s
  s1 : s ≤ 15
  m0 : 0 ≤ m
  m1 : m < 512
  k0 : 0 ≤ k
  k1 : k ≤ 15
theorem Dec.f {b a F D s m k : Int} (d : Dec b a F D s m k) : fStep b = s ∧ fFirst b = F ∧ fCnt b = D + 1 ∧ fAt b = a ∧ fRts b = m ∧ fKind b = k := by
  obtain ⟨e, a0, a1, F0, F1, D0, D1, s0, s1, m0, m1, k0, k1⟩ := d
  unfold fStep fFirst fCnt fAt fRts fKind
  rw [show (2 : Int) ^ 0 = 1 by decide, show (2 : Int) ^ 4 = 16 by decide, show (2 : Int) ^ 9 = 512 by decide, show (2 : Int) ^ 12 = 4096 by decide, show (2 : Int) ^ 24 = 16777216 by decide, show (2 : Int) ^ 28 = 268435456 by decide, show (2 : Int) ^ 32 = 4294967296 by decide, show (2 : Int) ^ 41 = 2199023255552 by decide]
  have q1 : b / 4096 = F + 4096 * (D + 16 * (s + 16 * (m + 512 * k))) := by omega
  have q2 : b / 16777216 = D + 16 * (s + 16 * (m + 512 * k)) := by omega
  have q3 : b / 268435456 = s + 16 * (m + 512 * k) := by omega
  have q4 : b / 4294967296 = m + 512 * k := by omega
  have q5 : b / 2199023255552 = k := by omega
  rw [q1, q2, q3, q4, q5]
  refine ⟨?_, ?_, ?_, ?_, ?_, ?_⟩ <;> omega
theorem Dec.w45 {b a F D s m k : Int} (d : Dec b a F D s m k) : W45 b := by
  obtain ⟨e, a0, a1, F0, F1, D0, D1, s0, s1, m0, m1, k0, k1⟩ := d
  unfold W45; omega
theorem Dec.of {b : Int} (w : W45 b) : Dec b (fAt b) (fFirst b) (fCnt b - 1) (fStep b) (fRts b) (fKind b) := by
  obtain ⟨w0, w1⟩ := w
  have f := fb b
  have r0 : 0 ≤ fRts b := Int.emod_nonneg _ (by decide)
  have r1 : fRts b < 512 := Int.emod_lt_of_pos _ (by decide)
  have a0 : 0 ≤ fAt b := Int.emod_nonneg _ (by decide)
  have a1 : fAt b < 4096 := Int.emod_lt_of_pos _ (by decide)
  have k0 : 0 ≤ fKind b := Int.emod_nonneg _ (by decide)
  have k1 : fKind b < 16 := Int.emod_lt_of_pos _ (by decide)
  refine ⟨?_, a0, by omega, by omega, by omega, by omega, by omega, by omega, by omega, r0, r1, k0, by omega⟩
  clear f r0 r1 a0 a1 k0 k1
  unfold fAt fFirst fCnt fStep fRts fKind
  rw [show (2 : Int) ^ 0 = 1 by decide, show (2 : Int) ^ 4 = 16 by decide, show (2 : Int) ^ 9 = 512 by decide, show (2 : Int) ^ 12 = 4096 by decide, show (2 : Int) ^ 24 = 16777216 by decide, show (2 : Int) ^ 28 = 268435456 by decide, show (2 : Int) ^ 32 = 4294967296 by decide, show (2 : Int) ^ 41 = 2199023255552 by decide]
  omega
theorem Dec.setAt {b a F D s m k z : Int} (d : Dec b a F D s m k) (h0 : 0 ≤ z) (h1 : z ≤ 4095) : Dec (b + (z - fAt b) * 2 ^ 0) z F D s m k := by
  have e := d.e; have f := d.f.2.2.2.1
  refine { d with e := ?_, a0 := h0, a1 := h1 }
  rw [f, show (2 : Int) ^ 0 = 1 by decide]; omega
theorem Dec.setFirst {b a F D s m k z : Int} (d : Dec b a F D s m k) (h0 : 0 ≤ z) (h1 : z ≤ 4095) : Dec (b + (z - fFirst b) * 2 ^ 12) a z D s m k := by
  have e := d.e; have f := d.f.2.1
  refine { d with e := ?_, F0 := h0, F1 := h1 }
  rw [f, show (2 : Int) ^ 12 = 4096 by decide]; omega
theorem Dec.setCnt {b a F D s m k z : Int} (d : Dec b a F D s m k) (h0 : 0 ≤ z) (h1 : z ≤ 15) : Dec (b + (z - (fCnt b - 1)) * 2 ^ 24) a F z s m k := by
  have e := d.e; have f := d.f.2.2.1
  refine { d with e := ?_, D0 := h0, D1 := h1 }
  rw [f, show (2 : Int) ^ 24 = 16777216 by decide]; omega
theorem Dec.setStep {b a F D s m k z : Int} (d : Dec b a F D s m k) (h0 : 0 ≤ z) (h1 : z ≤ 15) : Dec (b + (z - fStep b) * 2 ^ 28) a F D z m k := by
  have e := d.e; have f := d.f.1
  refine { d with e := ?_, s0 := h0, s1 := h1 }
  rw [f, show (2 : Int) ^ 28 = 268435456 by decide]; omega
theorem Dec.setRts {b a F D s m k z : Int} (d : Dec b a F D s m k) (h0 : 0 ≤ z) (h1 : z < 512) : Dec (b + (z - fRts b) * 2 ^ 32) a F D s z k := by
  have e := d.e; have f := d.f.2.2.2.2.1
  refine { d with e := ?_, m0 := h0, m1 := h1 }
  rw [f, show (2 : Int) ^ 32 = 4294967296 by decide]; omega
theorem Dec.setKind {b a F D s m k z : Int} (d : Dec b a F D s m k) (h0 : 0 ≤ z) (h1 : z ≤ 15) : Dec (b + (z - fKind b) * 2 ^ 41) a F D s m z := by
  have e := d.e; have f := d.f.2.2.2.2.2
  refine { d with e := ?_, k0 := h0, k1 := h1 }
  rw [f, show (2 : Int) ^ 41 = 2199023255552 by decide]; omega
theorem Ex.dd {lo hi : Int} {s : Nat} (b : Bd lo hi) (e : Ex lo hi s) : 0 ≤ lo / 2 ^ s ∧ lo / 2 ^ s ≤ 4095 ∧ 0 ≤ Dd lo hi s ∧ Dd lo hi s ≤ 15 ∧ s ≤ 8 := by
  obtain ⟨b1, b2, b3⟩ := b
  have dl := div_le' (s := s) b1
  refine ⟨dl.1, by omega, ?_, e.1.2.1, e.1.1⟩
  unfold Dd
  have := Int.ediv_le_ediv (pow_pos2 s) (show lo ≤ hi - 1 by omega)
  omega
theorem WF.dec {b lo hi at' kd : Int} {p : Nat → Bool} {s : Nat} (W : WF b lo hi at' p kd s) : Dec b at' (lo / 2 ^ s) (Dd lo hi s) s ((mask p 9).sum) kd := by
  have x := W.ex.dd W.bd
  have mb := maskOf_b (rtx p)
  rw [maskOf_rtx] at mb
  refine ⟨?_, W.a0, W.a1, x.1, x.2.1, x.2.2.1, x.2.2.2.1, by omega, by omega, mb.1, mb.2, W.k0, W.k1⟩
  have := wb_eq lo hi at' (maskOf (rtx p)) kd s
  rw [W.wb, maskOf_rtx] at this
  exact this
theorem Dec.wf {b lo hi at' kd : Int} {p : Nat → Bool} {s : Nat} (d : Dec b at' (lo / 2 ^ s) (Dd lo hi s) s ((mask p 9).sum) kd) (bd : Bd lo hi) (ex : Ex lo hi s) (ow : OneW (rtx p)) : WF b lo hi at' p kd s := by
  refine ⟨bd, ex, d.a0, d.a1, d.k0, d.k1, ow, ?_⟩
  rw [wb_eq, maskOf_rtx, ← d.e]
theorem WF.same {b b' lo hi at' kd : Int} {p p' : Nat → Bool} {s s' : Nat} (W : WF b lo hi at' p kd s) (W' : WF b' lo hi at' p' kd s') (e : rtx p = rtx p') : b = b' := by
  have es := W.ex.1.uniq W'.ex.1
  subst es
  rw [← W.wb, ← W'.wb, e]
theorem wf_at {b lo hi at' kd z : Int} {p : Nat → Bool} {s : Nat} (W : WF b lo hi at' p kd s) (h0 : 0 ≤ z) (h1 : z ≤ 4095) : WF (b + (z - fAt b) * 2 ^ 0) lo hi z p kd s :=
  (W.dec.setAt h0 h1).wf W.bd W.ex W.ow
theorem WF.re {b lo hi at' kd : Int} {p p' : Nat → Bool} {s : Nat} (W : WF b lo hi at' p kd s) (e : rtx p = rtx p') : WF b lo hi at' p' kd s :=
  ⟨W.bd, W.ex, W.a0, W.a1, W.k0, W.k1, by rw [← e]; exact W.ow, by rw [← e]; exact W.wb⟩
theorem int_short {i : Int} (h : i.natAbs < 10 ^ 200) : PyData.leavesShort 600 (.int i) = true := by
  have e := int_text_length_le10 (k := 200) (by decide) h
  clear h
  simp only [PyData.leavesShort, PyData.shown]
  refine decide_eq_true ?_
  rw [PySem.ofString_length]
  omega
theorem int_log {i : Int} (h : i.natAbs < 10 ^ 200) : i.natAbs.log2 < 800 := by
  have h2 : (10 : Nat) ^ 200 ≤ 16 ^ 200 := Nat.pow_le_pow_left (by decide) 200
  have h3 : (16 : Nat) ^ 200 = 2 ^ 800 := by rw [show (16 : Nat) = 2 ^ 4 by decide, ← Nat.pow_mul]
  exact PySem.Flt.log2_lt_of (by decide) (Nat.lt_of_lt_of_le h (h3 ▸ h2))
theorem int_able {i : Int} (h : i.natAbs < 10 ^ 200) : PyData.showable (.int i) = true := by
  have := int_log h
  simp only [PyData.showable]
  exact decide_eq_true (by omega)
theorem w45_log {b : Int} (w : W45 b) : b.natAbs.log2 < 45 := by
  obtain ⟨w0, w1⟩ := w
  refine PySem.Flt.log2_lt_of (by decide) ?_
  have e : (2 : Nat) ^ 45 = 35184372088832 := by decide
  rw [e]; omega
theorem w45_abs {b : Int} (w : W45 b) : b.natAbs < 10 ^ 14 := by
  obtain ⟨w0, w1⟩ := w
  have e : (10 : Nat) ^ 14 = 100000000000000 := by decide
  rw [e]; omega
theorem p10 {n k m : Nat} (h : n < 10 ^ k) (hk : k ≤ m) : n < 10 ^ m := Nat.lt_of_lt_of_le h (Nat.pow_le_pow_right (by decide) hk)
/-- the data of a word -/
def dw (m : Bool) (b : Int) : PyData := .tuple [.bool m, .int b]
theorem dw_small {m : Bool} {b : Int} (w : W45 b) : (dw m b).showable = true ∧ (dw m b).hasDict = false ∧ (dw m b).leavesShort 600 = true ∧ (dw m b).weight ≤ 60 ∧ (dw m b).depth = 1 := by
  have h1 := int_able (p10 (w45_abs w) (by decide : 14 ≤ 200))
  have h2 := int_short (p10 (w45_abs w) (by decide : 14 ≤ 200))
  unfold dw
  refine ⟨?_, ?_, ?_, ?_, ?_⟩
  · simp only [PyData.showable, PyData.showableAll, Bool.true_and, Bool.and_true] at *; exact h1
  · simp [PyData.hasDict, PyData.hasDictAll]
  · simp only [PyData.leavesShort, PyData.leavesShortAll, Bool.true_and, Bool.and_true] at *; exact h2
  · have := w45_log w
    simp [PyData.weight, PyData.weightAll]
    split <;> omega
  · simp [PyData.depth, PyData.depthAll]
theorem shown_fit {d : PyData} (h : d.leavesShort 600 = true) (w : d.weight ≤ 2000) : d.shown.length ≤ sizeLine := by
  have := PyData.shown_le 600 (by decide) d h
  rw [sizeLine_eq]; omega
theorem dl3 {m1 m2 m3 : Bool} {b1 b2 b3 : Int} (w1 : W45 b1) (w2 : W45 b2) (w3 : W45 b3) : (PyData.list [dw m1 b1, dw m2 b2, dw m3 b3]).showable = true ∧ (PyData.list [dw m1 b1, dw m2 b2, dw m3 b3]).hasDict = false ∧ (PyData.list [dw m1 b1, dw m2 b2, dw m3 b3]).depth ≤ 50 ∧ (PyData.list [dw m1 b1, dw m2 b2, dw m3 b3]).shown.length ≤ sizeLine := by
  obtain ⟨a1, a2, a3, a4, a5⟩ := dw_small (m := m1) w1
  obtain ⟨c1, c2, c3, c4, c5⟩ := dw_small (m := m2) w2
  obtain ⟨e1, e2, e3, e4, e5⟩ := dw_small (m := m3) w3
  refine ⟨?_, ?_, ?_, shown_fit ?_ ?_⟩
  · simp only [PyData.showable, PyData.showableAll, a1, c1, e1, Bool.and_self]
  · simp only [PyData.hasDict, PyData.hasDictAll, a2, c2, e2, Bool.or_self]
  · simp only [PyData.depth, PyData.depthAll, a5, c5, e5]; decide
  · simp only [PyData.leavesShort, PyData.leavesShortAll, a3, c3, e3, Bool.and_self]
  · simp only [PyData.weight, PyData.weightAll]; omega
/-! ### walked, narrowed -/
def WalkR (m : Bool) (b n : Int) (m' : Bool) (b' : Int) : Prop := ((m = true ∧ fKind b ≠ 0) ∧ m' = false ∧ b' = b) ∨ (¬ (m = true ∧ fKind b ≠ 0) ∧ m' = m ∧ b' = b + ((fAt b + n) % 4096 - fAt b) * 2 ^ 0)
theorem WalkR.uniq {m : Bool} {b n : Int} {m1 m2 : Bool} {b1 b2 : Int} (h : WalkR m b n m1 b1) (k : WalkR m b n m2 b2) : m1 = m2 ∧ b1 = b2 := by
  rcases h with ⟨h1, h2, h3⟩ | ⟨h1, h2, h3⟩ <;> rcases k with ⟨k1, k2, k3⟩ | ⟨k1, k2, k3⟩
  · rw [h2, k2, h3, k3]; exact ⟨rfl, rfl⟩
  · exact absurd h1 k1
  · exact absurd k1 h1
  · rw [h2, k2, h3, k3]; exact ⟨rfl, rfl⟩
theorem mod4096 (x : Int) : 0 ≤ x % 4096 ∧ x % 4096 ≤ 4095 := by omega
theorem WalkR.w45 {m : Bool} {b n : Int} {m' : Bool} {b' : Int} (w : W45 b) (h : WalkR m b n m' b') : W45 b' := by
  rcases h with ⟨h1, h2, h3⟩ | ⟨h1, h2, h3⟩
  · rw [h3]; exact w
  · rw [h3]; exact ((Dec.of w).setAt (mod4096 _).1 (mod4096 _).2).w45
theorem WalkR.ok {m : Bool} {b n : Int} {m' : Bool} {b' : Int} (w : W45 b) (L : m = true → Law b) (h : WalkR m b n m' b') (hm : m' = true) : m = true ∧ Law b' ∧ Within b' b := by
  rcases h with ⟨h1, h2, h3⟩ | ⟨h1, h2, h3⟩
  · rw [h2] at hm; cases hm
  · have m1 : m = true := h2 ▸ hm
    obtain ⟨lo, hi, at', p, kd, s, _, W⟩ := wf_of w (L m1)
    have W2 := wf_at W (mod4096 (fAt b + n)).1 (mod4096 (fAt b + n)).2
    rw [← h3] at W2
    exact ⟨m1, W2.all.2.1, (W2.within W).mpr ⟨Int.le_refl _, Int.le_refl _, fun _ _ h => h, .inl rfl⟩⟩
def NarC (n : Int) (ex : Bool) (lo hi at' kd : Int) (s : Nat) : Prop := kd = 0 ∧ Bd at' (at' + n) ∧ (ex = true → ∃ t, Ex at' (at' + n) t) ∧ StepIs at' (at' + n) s ∧ lo ≤ at' / 2 ^ s * 2 ^ s ∧ ((at' + n - 1) / 2 ^ s + 1) * 2 ^ s ≤ hi
def NarR (m : Bool) (b n : Int) (ex : Bool) (m' : Bool) (b' : Int) : Prop :=
  (m = false ∧ m' = false ∧ b' = b) ∨ (m = true ∧ ∀ lo hi at' p kd s0, WF b lo hi at' p kd s0 → ((m' = false ∧ b' = b ∧ ¬ ∃ s, NarC n ex lo hi at' kd s) ∨ (m' = true ∧ ∃ s, NarC n ex lo hi at' kd s ∧ WF b' (at' / 2 ^ s * 2 ^ s) (((at' + n - 1) / 2 ^ s + 1) * 2 ^ s) at' p 0 s)))
theorem NarR.uniq {m : Bool} {b n : Int} {ex : Bool} {m1 m2 : Bool} {b1 b2 : Int} (w : W45 b) (L : m = true → Law b) (h : NarR m b n ex m1 b1) (k : NarR m b n ex m2 b2) : m1 = m2 ∧ b1 = b2 := by
  rcases h with ⟨h1, h2, h3⟩ | ⟨h1, h2⟩ <;> rcases k with ⟨k1, k2, k3⟩ | ⟨k1, k2⟩
  · rw [h2, k2, h3, k3]; exact ⟨rfl, rfl⟩
  · rw [h1] at k1; cases k1
  · rw [h1] at k1; cases k1
  · obtain ⟨lo, hi, at', p, kd, s, _, W⟩ := wf_of w (L h1)
    rcases h2 _ _ _ _ _ _ W with ⟨a1, a2, a3⟩ | ⟨a1, t, a2, a3⟩ <;> rcases k2 _ _ _ _ _ _ W with ⟨c1, c2, c3⟩ | ⟨c1, u, c2, c3⟩
    · rw [a1, c1, a2, c2]; exact ⟨rfl, rfl⟩
    · exact absurd ⟨u, c2⟩ a3
    · exact absurd ⟨t, a2⟩ c3
    · have e : t = u := a2.2.2.2.1.uniq c2.2.2.2.1
      subst e
      exact ⟨by rw [a1, c1], a3.same c3 rfl⟩
theorem NarR.ok {m : Bool} {b n : Int} {ex : Bool} {m' : Bool} {b' : Int} (w : W45 b) (L : m = true → Law b) (h : NarR m b n ex m' b') : W45 b' ∧ (m' = true → m = true ∧ Law b' ∧ Within b' b) := by
  rcases h with ⟨h1, h2, h3⟩ | ⟨h1, h2⟩
  · rw [h3]; exact ⟨w, fun z => by rw [h2] at z; cases z⟩
  · obtain ⟨lo, hi, at', p, kd, s, _, W⟩ := wf_of w (L h1)
    rcases h2 _ _ _ _ _ _ W with ⟨a1, a2, a3⟩ | ⟨a1, t, a2, a3⟩
    · rw [a2]; exact ⟨w, fun z => by rw [a1] at z; cases z⟩
    · refine ⟨a3.all.1, fun _ => ⟨h1, a3.all.2.1, (a3.within W).mpr ⟨a2.2.2.2.2.1, a2.2.2.2.2.2, fun _ _ h => h, .inl a2.1.symm⟩⟩⟩
theorem with_finH {A P : Hp → Prop} {G : Prop} (h : ∀ H, A H → P H) (k : (∀ H, A H → P H) → G) : G := k h
/-- a word that tells b in H -/
def WT (H : Hp) (q : Addr) (m : Bool) (b : Int) : Prop := H q = some (.tup [.bl m, .int b])

/-! ### lessened, sealed, opened, entry -/
def OutR (m : Bool) (b : Int) (C : Str → Int → Option (Str × Int)) (m' : Bool) (b' : Int) : Prop :=
  (m = false ∧ m' = false ∧ b' = b) ∨ (m = true ∧ ∀ lo hi at' p kd s, WF b lo hi at' p kd s → (C (rtx p) kd = none ∧ m' = false ∧ b' = b) ∨ (∃ q k, C (rtx p) kd = some (rtx q, k) ∧ m' = true ∧ WF b' lo hi at' q k s))
theorem OutR.uniq {m : Bool} {b : Int} {C : Str → Int → Option (Str × Int)} {m1 m2 : Bool} {b1 b2 : Int} (w : W45 b) (L : m = true → Law b) (h : OutR m b C m1 b1) (k : OutR m b C m2 b2) : m1 = m2 ∧ b1 = b2 := by
  rcases h with ⟨h1, h2, h3⟩ | ⟨h1, h2⟩ <;> rcases k with ⟨k1, k2, k3⟩ | ⟨k1, k2⟩
  · rw [h2, k2, h3, k3]; exact ⟨rfl, rfl⟩
  · rw [h1] at k1; cases k1
  · rw [h1] at k1; cases k1
  · obtain ⟨lo, hi, at', p, kd, s, _, W⟩ := wf_of w (L h1)
    rcases h2 _ _ _ _ _ _ W with ⟨a1, a2, a3⟩ | ⟨q, k, a1, a2, a3⟩ <;> rcases k2 _ _ _ _ _ _ W with ⟨c1, c2, c3⟩ | ⟨u, v, c1, c2, c3⟩
    · rw [a2, c2, a3, c3]; exact ⟨rfl, rfl⟩
    · rw [a1] at c1; cases c1
    · rw [a1] at c1; cases c1
    · rw [a1] at c1
      have e := Option.some.inj c1
      have e1 : rtx q = rtx u := congrArg Prod.fst e
      have e2 : k = v := congrArg Prod.snd e
      subst e2
      exact ⟨by rw [a2, c2], a3.same c3 e1⟩
theorem OutR.ok {m : Bool} {b : Int} {C : Str → Int → Option (Str × Int)} {m' : Bool} {b' : Int} (w : W45 b) (L : m = true → Law b) (h : OutR m b C m' b') : W45 b' ∧ (m' = true → m = true ∧ Law b') := by
  rcases h with ⟨h1, h2, h3⟩ | ⟨h1, h2⟩
  · rw [h3]; exact ⟨w, fun z => by rw [h2] at z; cases z⟩
  · obtain ⟨lo, hi, at', p, kd, s, _, W⟩ := wf_of w (L h1)
    rcases h2 _ _ _ _ _ _ W with ⟨a1, a2, a3⟩ | ⟨q, k, a1, a2, a3⟩
    · rw [a3]; exact ⟨w, fun z => by rw [a2] at z; cases z⟩
    · exact ⟨a3.all.1, fun _ => ⟨h1, a3.all.2.1⟩⟩
/-- .. from one form of the fields -/
theorem OutR.bare {b lo hi at' kd : Int} {p : Nat → Bool} {s : Nat} {C : Str → Int → Option (Str × Int)} (W : WF b lo hi at' p kd s) (h : C (rtx p) kd = none) : OutR true b C false b :=
  .inr ⟨rfl, fun lo' hi' a' p' k' s' W' => by
    have u := W.uniq W'
    rw [← u.2.2.2.1, ← u.2.2.2.2.1]
    exact .inl ⟨h, rfl, rfl⟩⟩
theorem OutR.made {b b' lo hi at' kd k : Int} {p q : Nat → Bool} {s s2 : Nat} {C : Str → Int → Option (Str × Int)} (W : WF b lo hi at' p kd s) (h : C (rtx p) kd = some (rtx q, k)) (W2 : WF b' lo hi at' q k s2) : OutR true b C true b' :=
  .inr ⟨rfl, fun lo' hi' a' p' k' s' W' => by
    have u := W.uniq W'
    have e := W.ex.1.uniq W2.ex.1
    rw [← u.1, ← u.2.1, ← u.2.2.1, ← u.2.2.2.1, ← u.2.2.2.2.1, ← u.2.2.2.2.2, e]
    exact .inr ⟨q, k, h, rfl, W2⟩⟩
def less (r0 r : Str) : Str := rtx (andp (hasR r0) (hasR r))
def nof : Nat → Bool := fun k => decide (k ≠ 5)
def lessC (r : Str) : Str → Int → Option (Str × Int) := fun r0 kd => if kd = 0 then some (less r0 r, 0) else none
def sealC (g : Bool) (z : Int) : Str → Int → Option (Str × Int) := fun r0 kd => if kd = 0 ∧ g = true then some (r0, z) else none
def openC (g : Bool) (z : Int) (f : Bool) : Str → Int → Option (Str × Int) := fun r0 kd => if g = true ∧ kd = z then some (if f = true then r0 else rtx (andp (hasR r0) nof), 0) else none
def bareC (f : Bool) : Str → Int → Option (Str × Int) := fun r0 _ => some (if f = true then r0 else rtx (andp (hasR r0) nof), 0)
def entC : Str → Int → Option (Str × Int) := fun r0 kd => if kd = 0 ∧ hasR r0 6 = true then some (r0, 1) else none
theorem less_rtx (p : Nat → Bool) (r : Str) : less (rtx p) r = rtx (andp p (hasR r)) := by
  unfold less andp
  exact rtx_congr fun k hk => by rw [hasR_rtx p hk]
theorem nof_rtx (p : Nat → Bool) : rtx (andp (hasR (rtx p)) nof) = rtx (andp p nof) := by
  unfold andp
  exact rtx_congr fun k hk => by rw [hasR_rtx p hk]
theorem andp_ow {p q : Nat → Bool} (o : OneW (rtx p)) : OneW (rtx (andp p q)) := ow_sub (fun k _ h => by unfold andp at h; exact (Bool.and_eq_true_iff.mp h).1) o
def Gives (m : Bool) (b : Int) (k : Nat) : Prop := m = true ∧ fKind b = 0 ∧ bitp (fRts b) k = true ∧ fFirst b * 2 ^ (fStep b).toNat ≤ fAt b ∧ fAt b < (fFirst b + fCnt b) * 2 ^ (fStep b).toNat ∧ 3 ≤ fAt b ∧ fAt b ≤ 15
instance (m : Bool) (b : Int) (k : Nat) : Decidable (Gives m b k) := by unfold Gives; infer_instance
theorem maskOf_sum (r : Str) : maskOf r = (mask (hasR r) 9).sum := rfl
/-- a text of rights, some of its signs -/
theorem filt_rtx (p : Nat → Bool) (f : Nat → Bool) : ((rtx p).cps.toList.filter f).map one = rcs (andp p fun k => f (code k)) 9 := by
  rw [rtx_codes]
  unfold rcs andp
  rw [List.filter_map, List.map_map, List.filter_filter]
  congr 1
  refine List.filter_congr fun k _ => ?_
  show (f (code k) && p k) = _
  rw [Bool.and_comm]
theorem replL1 (c : Nat) : ∀ l : List Nat, StrLaws.replL [c] [] l = l.filter fun d => decide (d ≠ c)
  | [] => StrLaws.replL_nil
  | d :: l => by
    by_cases h : d = c
    · subst h
      rw [StrLaws.replL_hit (by simp) (by simp)]
      simp only [List.nil_append, List.length_cons, List.length_nil, List.drop_succ_cons, List.drop_zero]
      rw [replL1 d l, List.filter_cons, if_neg (by simp)]
    · rw [StrLaws.replL_miss (by simpa using h), replL1 c l, List.filter_cons, if_pos (by simpa using h)]
theorem str_ext {x y : Str} (h : x.cps.toList = y.cps.toList) : x = y := by
  cases x; cases y
  simp only at h
  rw [Array.toList_inj.mp h]
theorem repl_rtx (p : Nat → Bool) : Txt.replace (rtx p) (Str.ofString "f") (Str.ofString "") = rtx (andp p nof) := by
  refine str_ext ?_
  rw [StrLaws.replace_list (by decide +kernel), show (Str.ofString "f").cps.toList = [102] by decide +kernel, show (Str.ofString "").cps.toList = [] by decide +kernel, replL1, rtx_codes, rtx_codes]
  unfold andp
  rw [List.filter_map, List.filter_filter]
  congr 1
  refine List.filter_congr fun k hk => ?_
  have k9 := List.mem_range.mp hk
  have e : decide (code k ≠ 102) = nof k := by
    unfold nof
    rw [decide_eq_decide]
    have h5 : code 5 = 102 := by decide
    constructor
    · intro h z; subst z; exact h h5
    · intro h z; exact h (code_inj k k9 5 (by decide) (z.trans h5.symm))
  show (decide (code k ≠ 102) && p k) = _
  rw [e, Bool.and_comm]
theorem sel2 (x y : V) (c : Bool) : atI [x, y] (if c = true then (1 : Int) else 0) = some (if c = true then y else x) := by cases c <;> rfl
theorem wf_rts {b lo hi at' kd : Int} {p q : Nat → Bool} {s : Nat} (W : WF b lo hi at' p kd s) (o : OneW (rtx q)) : WF (b + ((mask q 9).sum - fRts b) * 2 ^ 32) lo hi at' q kd s := by
  have mb := mask_b q 9 (Nat.le_refl _)
  exact (W.dec.setRts mb.1 (by omega)).wf W.bd W.ex o
theorem wf_kind {b lo hi at' kd z : Int} {p : Nat → Bool} {s : Nat} (W : WF b lo hi at' p kd s) (h0 : 0 ≤ z) (h1 : z ≤ 15) : WF (b + (z - fKind b) * 2 ^ 41) lo hi at' p z s :=
  (W.dec.setKind h0 h1).wf W.bd W.ex W.ow
theorem rts_b (b : Int) : 0 ≤ fRts b ∧ fRts b < 512 := ⟨Int.emod_nonneg _ (by decide), Int.emod_lt_of_pos _ (by decide)⟩
theorem kind_b (b : Int) : 0 ≤ fKind b ∧ fKind b ≤ 15 := by
  have h1 : 0 ≤ fKind b := Int.emod_nonneg _ (by decide)
  have h2 : fKind b < 16 := Int.emod_lt_of_pos _ (by decide)
  omega
theorem at_b (b : Int) : 0 ≤ fAt b ∧ fAt b ≤ 4095 := by
  have h1 : 0 ≤ fAt b := Int.emod_nonneg _ (by decide)
  have h2 : fAt b < 4096 := Int.emod_lt_of_pos _ (by decide)
  omega

theorem code_f {k : Nat} (hk : k < 9) : decide (code k ≠ 102) = nof k := by
  unfold nof
  rw [decide_eq_decide]
  have h5 : code 5 = 102 := by decide
  constructor
  · intro h z; subst z; exact h h5
  · intro h z; exact h (code_inj k hk 5 (by decide) (z.trans h5.symm))
theorem g_rtx (p : Nat → Bool) (f : Bool) : rtx (andp p fun k => decide (code k ≠ 102) || f) = if f = true then rtx p else rtx (andp (hasR (rtx p)) nof) := by
  cases f with
  | true =>
    rw [if_pos rfl]
    exact rtx_congr fun k hk => by unfold andp; simp
  | false =>
    rw [if_neg Bool.false_ne_true, nof_rtx]
    exact rtx_congr fun k hk => by
      show (p k && (decide (code k ≠ 102) || false)) = (p k && nof k)
      rw [code_f hk, Bool.or_false]
theorem one_ne {c d : Nat} : decide (V.str (one c) = V.str (one d)) = decide (c = d) := by
  rw [decide_eq_decide]
  constructor
  · intro h
    have h4 := congrArg (fun x : Str => x.cps.toList) (V.str.inj h)
    simpa [one] using h4
  · intro h; rw [h]
theorem dw_fit {m : Bool} {b : Int} (w : W45 b) : (dw m b).showable = true ∧ (dw m b).hasDict = false ∧ (dw m b).depth ≤ 50 ∧ (dw m b).shown.length ≤ sizeLine := by
  obtain ⟨a1, a2, a3, a4, a5⟩ := dw_small (m := m) w
  exact ⟨a1, a2, by rw [a5]; decide, shown_fit a3 (by omega)⟩
theorem dl2 {m1 m2 : Bool} {b1 b2 : Int} (w1 : W45 b1) (w2 : W45 b2) : (PyData.list [dw m1 b1, dw m2 b2]).showable = true ∧ (PyData.list [dw m1 b1, dw m2 b2]).hasDict = false ∧ (PyData.list [dw m1 b1, dw m2 b2]).depth ≤ 50 ∧ (PyData.list [dw m1 b1, dw m2 b2]).shown.length ≤ sizeLine := by
  obtain ⟨a1, a2, a3, a4, a5⟩ := dw_small (m := m1) w1
  obtain ⟨c1, c2, c3, c4, c5⟩ := dw_small (m := m2) w2
  refine ⟨?_, ?_, ?_, shown_fit ?_ ?_⟩
  · simp only [PyData.showable, PyData.showableAll, a1, c1, Bool.and_self]
  · simp only [PyData.hasDict, PyData.hasDictAll, a2, c2, Bool.or_self]
  · simp only [PyData.depth, PyData.depthAll, a5, c5]; decide
  · simp only [PyData.leavesShort, PyData.leavesShortAll, a3, c3, Bool.and_self]
  · simp only [PyData.weight, PyData.weightAll]; omega
/-- all of a list are words -/
def AllW (H : Hp) (vs : List V) : Prop := ∀ v ∈ vs, ∃ q m b, v = .ref q ∧ Wd H q m b
theorem AllW.same {H H' : Hp} {vs : List V} (h : AllW H vs) (s : Same H H') : AllW H' vs := fun v hv => by
  obtain ⟨q, m, b, e, w⟩ := h v hv
  exact ⟨q, m, b, e, w.same s⟩
theorem AllW.but {H H' : Hp} {a : Addr} {x y : Int} {vs : List V} (h : AllW H vs) (P : Pool H a x y) (s : But a H H') : AllW H' vs := fun v hv => by
  obtain ⟨q, m, b, e, w⟩ := h v hv
  exact ⟨q, m, b, e, w.but s (w.ne P)⟩
theorem Wd.upd {H : Hp} {q D : Addr} {m : Bool} {b : Int} {xs : List V} {o : HO} (h : Wd H q m b) (hD : H D = some (.lst xs)) : Wd (upd H D o) q m b := ⟨by
  have n : q ≠ D := by
    intro e; subst e
    have := h.at'
    rw [hD] at this; cases this
  rw [upd_ne n]; exact h.at', h.w, h.law⟩
theorem AllW.upd {H : Hp} {D : Addr} {vs xs : List V} {o : HO} (h : AllW H vs) (hD : H D = some (.lst xs)) : AllW (L2.upd H D o) vs := fun v hv => by
  obtain ⟨q, m, b, e, w⟩ := h v hv
  exact ⟨q, m, b, e, w.upd hD⟩

/-! ### cells -/
theorem seqT2 {K : PySem.W.Frag} {H H' : Hp} {a : Addr} {xs : List V} (e : ∀ o, H a = some o → H' a = some o) (h : SqT K H a xs) : SqT K H' a xs := by
  rcases h with (h | ⟨o, h⟩) | h
  · exact .inl (.inl (e _ h))
  · exact .inl (.inr ⟨o, e _ h⟩)
  · exact .inr h
/-- a word, laid by the program itself or kept in what stands -/
structure Wk (K : PySem.W.Frag) (H : Hp) (q : Addr) (m : Bool) (b : Int) : Prop where
  at' : SqT K H q [.bl m, .int b]
  w : W45 b
  law : m = true → Law b
theorem Wd.k {K : PySem.W.Frag} {H : Hp} {q : Addr} {m : Bool} {b : Int} (h : Wd H q m b) : Wk K H q m b := ⟨.inl (.inl h.at'), h.w, h.law⟩
/-- all but what stands at a list's address is as before -/
def ButL (L : Addr) (H H' : Hp) : Prop := ∀ a o, a ≠ L → H a = some o → H' a = some o
theorem Wk.via {K : PySem.W.Frag} {H H' : Hp} {q : Addr} {m : Bool} {b : Int} (h : Wk K H q m b) (s : ∀ xs, H q = some xs → (∃ ys, xs = .tup ys ∨ ∃ o, xs = .frz o (.tup ys)) → H' q = some xs) : Wk K H' q m b := by
  refine ⟨?_, h.w, h.law⟩
  rcases h.at' with (h | ⟨o, h⟩) | h
  · exact .inl (.inl (s _ h ⟨_, .inl rfl⟩))
  · exact .inl (.inr ⟨o, s _ h ⟨_, .inr ⟨o, rfl⟩⟩⟩)
  · exact .inr h
theorem Wk.same {K : PySem.W.Frag} {H H' : Hp} {q : Addr} {m : Bool} {b : Int} (h : Wk K H q m b) (s : Same H H') : Wk K H' q m b := h.via fun _ e _ => s _ _ e
/-- .. where lists, dicts and instances alone are changed -/
theorem Wk.but {K : PySem.W.Frag} {H H' : Hp} {q p : Addr} {m : Bool} {b : Int} {o : HO} (h : Wk K H q m b) (s : But p H H') (e : H p = some o) (n : (∀ ys, o ≠ .tup ys) ∧ ∀ ys f, o ≠ .frz f (.tup ys)) : Wk K H' q m b := h.via fun xs ex hx => s _ _ (fun z => by
  subst z
  rw [e] at ex
  cases ex
  rcases hx with ⟨ys, h | ⟨f, h⟩⟩
  · exact n.1 _ h
  · exact n.2 _ _ h) ex
/-- the cells: an instance whose list of words tells f -/
structure Cel (K : PySem.W.Frag) (H : Hp) (c L : Addr) (ws : List V) (f : Nat → Bool × Int) : Prop where
  ins : InsOf K "Cells" H c [("_words", .ref L)]
  lst : H L = some (.lst ws)
  len : ws.length = 4096
  all : ∀ i, i < 4096 → ∃ q, ws[i]? = some (.ref q) ∧ Wk K H q (f i).1 (f i).2
theorem Cel.same {K : PySem.W.Frag} {H H' : Hp} {c L : Addr} {ws : List V} {f : Nat → Bool × Int} (C : Cel K H c L ws f) (s : Same H H') : Cel K H' c L ws f := by
  obtain ⟨⟨D, dx, h1, h2⟩, h3, h4, h5⟩ := C
  exact ⟨⟨D, dx, h1, s _ _ h2⟩, s _ _ h3, h4, fun i hi => by obtain ⟨q, e, w⟩ := h5 i hi; exact ⟨q, e, w.same s⟩⟩
theorem Cel.but {K : PySem.W.Frag} {H H' : Hp} {c L p : Addr} {ws : List V} {f : Nat → Bool × Int} {o : HO} (C : Cel K H c L ws f) (s : But p H H') (e : H p = some o) (n : (∀ ys, o ≠ .tup ys) ∧ ∀ ys f, o ≠ .frz f (.tup ys)) (nc : ∀ D dx fs, o ≠ .ins D dx fs) (nl : p ≠ L) : Cel K H' c L ws f := by
  obtain ⟨⟨D, dx, h1, h2⟩, h3, h4, h5⟩ := C
  exact ⟨⟨D, dx, h1, s _ _ (fun z => by subst z; rw [e] at h2; exact nc _ _ _ (Option.some.inj h2)) h2⟩, s _ _ (Ne.symm nl) h3, h4, fun i hi => by obtain ⟨q, e', w⟩ := h5 i hi; exact ⟨q, e', w.but s e n⟩⟩
/-- the pool is no list of cells -/
theorem Cel.pool {K : PySem.W.Frag} {H : Hp} {c L p : Addr} {ws : List V} {f : Nat → Bool × Int} {x y : Int} (C : Cel K H c L ws f) (P : Pool H p x y) : p ≠ L := by
  rintro rfl
  have e := P.1.symm.trans C.lst
  injection e with e
  injection e with e
  have := C.len
  rw [← e] at this
  cases this
theorem nlst {xs : List V} : ((∀ ys, HO.lst xs ≠ .tup ys) ∧ ∀ ys f, HO.lst xs ≠ .frz f (.tup ys)) ∧ ∀ D dx fs, HO.lst xs ≠ .ins D dx fs := ⟨⟨fun _ h => (by cases h), fun _ _ h => (by cases h)⟩, fun _ _ _ h => (by cases h)⟩
theorem ndk {xs : List (Key × V)} : ((∀ ys, HO.dK xs ≠ .tup ys) ∧ ∀ ys f, HO.dK xs ≠ .frz f (.tup ys)) ∧ ∀ D dx fs, HO.dK xs ≠ .ins D dx fs := ⟨⟨fun _ h => (by cases h), fun _ _ h => (by cases h)⟩, fun _ _ _ h => (by cases h)⟩
theorem Cel.butP {K : PySem.W.Frag} {H H' : Hp} {c L p : Addr} {ws : List V} {f : Nat → Bool × Int} {x y : Int} (C : Cel K H c L ws f) (P : Pool H p x y) (s : But p H H') : Cel K H' c L ws f := C.but s P.1 nlst.1 nlst.2 (C.pool P)
/-- a word laid anew -/
def lays (f : Nat → Bool × Int) (i : Nat) (m : Bool) (b : Int) : Nat → Bool × Int := fun j => if j = i then (m, b) else f j
theorem Cel.lay {K : PySem.W.Frag} {H : Hp} {c L q : Addr} {ws : List V} {f : Nat → Bool × Int} {i : Nat} {m : Bool} {b : Int} (C : Cel K H c L ws f) (w : Wk K H q m b) (hi : i < 4096) : Cel K (upd H L (.lst (ws.set i (.ref q)))) c L (ws.set i (.ref q)) (lays f i m b) := by
  obtain ⟨⟨D, dx, h1, h2⟩, h3, h4, h5⟩ := C
  have kp : ∀ {q m b}, Wk K H q m b → Wk K (upd H L (.lst (ws.set i (.ref q)))) q m b := fun w => w.but (p := L) (fun a o n e => by rw [upd_ne n]; exact e) h3 nlst.1
  refine ⟨⟨D, dx, h1, by rw [upd_ne (fun z => by subst z; rw [h3] at h2; cases h2)]; exact h2⟩, upd_same, by rw [List.length_set]; exact h4, fun j hj => ?_⟩
  unfold lays
  by_cases e : j = i
  · subst e
    rw [if_pos rfl]
    exact ⟨q, by rw [List.getElem?_set, if_pos rfl, if_pos (by omega)], w.but (p := L) (fun a o n e => by rw [upd_ne n]; exact e) h3 nlst.1⟩
  · rw [if_neg e]
    obtain ⟨q2, e2, w2⟩ := h5 j hj
    exact ⟨q2, by rw [List.getElem?_set_ne (Ne.symm e)]; exact e2, w2.but (p := L) (fun a o n e => by rw [upd_ne n]; exact e) h3 nlst.1⟩
/-- whether a right is among a word's -/
def inR (c : Nat) (b : Int) : Bool := decide (c ∈ (rtx (bitp (fRts b))).cps.toList)
/-- what ends a touch by a word, or nothing -/
def dueS (m : Bool) (b off : Int) (c : Nat) : Str := if m = false then Str.ofString "mark" else if fKind b ≠ 0 then Str.ofString "seal" else if inR c b = false then Str.ofString "right" else if fFirst b * 2 ^ (fStep b).toNat ≤ fAt b + off ∧ fAt b + off < (fFirst b + fCnt b) * 2 ^ (fStep b).toNat then Str.ofString "" else Str.ofString "bounds"
def storeS (m : Bool) (b off : Int) (m2 : Bool) (b2 : Int) : Str := if dueS m b off 119 ≠ Str.ofString "" then dueS m b off 119 else if m2 = false then Str.ofString "" else if inR 115 b = false then Str.ofString "store" else if inR 102 b2 = false ∧ inR 110 b = false then Str.ofString "near" else Str.ofString ""

theorem ixZ {n j : Nat} (hj : j < n) : ixN n (j : Int) = some j := by
  unfold ixN
  rw [if_pos (by omega), if_pos (by omega)]
  rfl
theorem rep_flat (v : V) (n : Nat) : (List.replicate n [v]).flatten = List.replicate n v := by
  induction n with
  | zero => rfl
  | succ n ih => rw [List.replicate_succ, List.flatten_cons, ih, List.replicate_succ]; rfl

def LetsV (K : PySem.W.Frag) (x f : Str) (v : V) (H : Hp) (E : XK) : Prop := ∀ (C d : Addr) (H1 : Hp), PySem.W.nsIn K mainGlobals x = some (some (.ref C)) → Same H H1 → H1 d = none → E (.ref C) (some d) (upd H1 d (.xd [(f, v)]))
theorem LetsV.same {K : PySem.W.Frag} {x f : Str} {v : V} {H H2 : Hp} {E : XK} (l : LetsV K x f v H E) (s : Same H H2) : LetsV K x f v H2 E := fun C d H1 h1 h2 h3 => l C d H1 h1 (s.trans h2) h3

/-- what comes of a touch, the law's way of saying it -/
structure Said (K : PySem.W.Frag) (H : Hp) (Q : VK) (way : Int) (L : Addr) (ws : List V) (f : Nat → Bool × Int) (m : Bool) (b off : Int) (q2 : Addr) (m2 : Bool) (b2 : Int) : Prop where
  load : way = 0 → dueS m b off 114 = Str.ofString "" → ∀ i : Nat, (i : Int) = fAt b + off → i < 4096 → ∀ q H', Same H H' → Wk K H' q ((f i).1 && inR 108 b) (f i).2 → Q (.ref q) H'
  store : way = 1 → storeS m b off m2 b2 = Str.ofString "" → ∀ i : Nat, (i : Int) = fAt b + off → i < 4096 → ∀ H', Same H H' → Q .non (upd H' L (.lst (ws.set i (.ref q2))))
  poke : way = 2 → dueS m b off 119 = Str.ofString "" → ∀ i : Nat, (i : Int) = fAt b + off → i < 4096 → ∀ q H', Same H H' → Wd H' q false ((f i).2 - (f i).2 % 2 ^ 28 + b2 % 2 ^ 28) → Q .non (upd H' L (.lst (ws.set i (.ref q))))
  bad : ∀ d, d ≠ Str.ofString "" → (way = 0 → d = dueS m b off 114) → (way = 1 → d = storeS m b off m2 b2) → (way = 2 → d = dueS m b off 119) → ∀ H', Same H H' → Q (.str d) H'
/-- the law's book: what was laid, by its address -/
structure Bk (K : PySem.W.Frag) (H : Hp) (D : Addr) (kvs : List (Key × V)) (f : Nat → Bool × Int) : Prop where
  at' : H D = some (.dK kvs)
  keys : ∀ kv ∈ kvs, ∃ i : Nat, i < 4096 ∧ kv.1 = .inl (i : Int)
  nd : (kvs.map (·.1)).Nodup
  val : ∀ i : Nat, i < 4096 → (valV kvs (.inl (i : Int)) = none ∧ f i = (false, 0)) ∨ ∃ q, valV kvs (.inl (i : Int)) = some (.ref q) ∧ Wk K H q (f i).1 (f i).2
def ButP (p L D : Addr) (H H' : Hp) : Prop := ∀ a o, a ≠ p → a ≠ L → a ≠ D → H a = some o → H' a = some o
theorem ButP.trans {p L D : Addr} {H G J : Hp} (h : ButP p L D H G) (k : ButP p L D G J) : ButP p L D H J := fun a o n1 n2 n3 e => k a o n1 n2 n3 (h a o n1 n2 n3 e)
theorem But.P {p L D : Addr} {H G : Hp} (h : But p H G) : ButP p L D H G := fun a o n1 _ _ e => h a o n1 e
theorem same_P {p L D : Addr} {H G : Hp} (h : Same H G) : ButP p L D H G := fun a o _ _ _ e => h a o e
theorem butP_L {p L D : Addr} {H : Hp} {o : HO} : ButP p L D H (upd H L o) := fun _ _ _ n _ e => by rw [upd_ne n]; exact e
theorem butP_D {p L D : Addr} {H : Hp} {o : HO} : ButP p L D H (upd H D o) := fun _ _ _ _ n e => by rw [upd_ne n]; exact e
theorem but_self {p : Addr} {H : Hp} {o : HO} : But p H (L2.upd H p o) := fun _ _ n e => by rw [upd_ne n]; exact e
theorem Bk.same {K : PySem.W.Frag} {H H' : Hp} {D : Addr} {kvs : List (Key × V)} {f : Nat → Bool × Int} (B : Bk K H D kvs f) (s : Same H H') : Bk K H' D kvs f :=
  ⟨s _ _ B.at', B.keys, B.nd, fun i hi => (B.val i hi).imp id fun ⟨q, e, w⟩ => ⟨q, e, w.same s⟩⟩
theorem Bk.but {K : PySem.W.Frag} {H H' : Hp} {D p : Addr} {kvs : List (Key × V)} {f : Nat → Bool × Int} {xs : List V} (B : Bk K H D kvs f) (e : H p = some (.lst xs)) (s : But p H H') : Bk K H' D kvs f :=
  ⟨s _ _ (fun z => by subst z; have := B.at'; rw [e] at this; cases this) B.at', B.keys, B.nd, fun i hi => (B.val i hi).imp id fun ⟨q, e', w⟩ => ⟨q, e', w.but s e nlst.1⟩⟩
theorem Bk.butP {K : PySem.W.Frag} {H H' : Hp} {D p : Addr} {kvs : List (Key × V)} {f : Nat → Bool × Int} {x y : Int} (B : Bk K H D kvs f) (P : Pool H p x y) (s : But p H H') : Bk K H' D kvs f := B.but P.1 s
theorem nd_put {kvs : List (Key × V)} {k : Key} {v : V} (hn : (kvs.map (·.1)).Nodup) : ((putK kvs k v).map (·.1)).Nodup := by
  cases e : valV kvs k with
  | none =>
    rw [putK_new v e, List.map_append]
    refine List.nodup_append.mpr ⟨hn, by simp, fun a ha b hb => ?_⟩
    simp only [List.map_cons, List.map_nil, List.mem_cons, List.not_mem_nil, or_false] at hb
    subst hb
    rintro rfl
    obtain ⟨kv, hm, hk⟩ := List.mem_map.mp ha
    have a1 := valV_any a kvs
    rw [e] at a1
    have : (kvs.any fun kv => decide (kv.1 = a)) = true := List.any_eq_true.mpr ⟨kv, hm, decide_eq_true hk⟩
    rw [this] at a1; cases a1
  | some u =>
    have a1 := valV_any k kvs
    rw [e] at a1
    have a1 : (kvs.any fun kv => decide (kv.1 = k)) = true := a1
    unfold putK
    rw [if_pos a1, List.map_map]
    have : ((fun x : Key × V => x.1) ∘ fun kv : Key × V => if kv.1 = k then (kv.1, v) else kv) = fun x => x.1 := by
      funext x; show (if x.1 = k then (x.1, v) else x).1 = x.1; split <;> rfl
    rw [this]; exact hn
theorem mem_put {kvs : List (Key × V)} {k : Key} {v : V} {kv : Key × V} (h : kv ∈ putK kvs k v) : kv.1 = k ∨ ∃ kv' ∈ kvs, kv'.1 = kv.1 := by
  unfold putK at h
  split at h
  · obtain ⟨x, hx, rfl⟩ := List.mem_map.mp h
    refine .inr ⟨x, hx, ?_⟩
    split <;> rfl
  · rcases List.mem_append.mp h with h | h
    · exact .inr ⟨kv, h, rfl⟩
    · rw [List.mem_singleton] at h; subst h; exact .inl rfl
theorem Bk.put {K : PySem.W.Frag} {H : Hp} {D q : Addr} {kvs : List (Key × V)} {f : Nat → Bool × Int} {i : Nat} {m : Bool} {b : Int} (B : Bk K H D kvs f) (hi : i < 4096) (w : Wk K H q m b) : Bk K (upd H D (.dK (putK kvs (.inl (i : Int)) (.ref q)))) D (putK kvs (.inl (i : Int)) (.ref q)) (lays f i m b) := by
  have kp : But D H (upd H D (.dK (putK kvs (.inl (i : Int)) (.ref q)))) := but_self
  refine ⟨upd_same, fun kv h => ?_, nd_put B.nd, fun j hj => ?_⟩
  · rcases mem_put h with h | ⟨kv', h1, h2⟩
    · exact ⟨i, hi, h⟩
    · rw [← h2]; exact B.keys _ h1
  · unfold lays
    rw [valV_put]
    by_cases e : j = i
    · subst e
      rw [if_pos rfl, if_pos rfl]
      exact .inr ⟨q, rfl, w.but kp B.at' ndk.1⟩
    · rw [if_neg e, if_neg (fun z => e (by have := Sum.inl.inj z; omega))]
      exact (B.val j hj).imp id fun ⟨q, e', w⟩ => ⟨q, e', w.but kp B.at' ndk.1⟩
/-- a word put into the book over what was put there before -/
theorem Bk.put2 {K : PySem.W.Frag} {H J : Hp} {D q : Addr} {kvs : List (Key × V)} {f : Nat → Bool × Int} {i : Nat} {m : Bool} {b : Int} {v : V} (B : Bk K H D kvs f) (hi : i < 4096) (kp : But D H J) (e : J D = some (.dK (putK (putK kvs (.inl (i : Int)) v) (.inl (i : Int)) (.ref q)))) (w : Wk K J q m b) : Bk K J D (putK (putK kvs (.inl (i : Int)) v) (.inl (i : Int)) (.ref q)) (lays f i m b) := by
  refine ⟨e, fun kv h => ?_, nd_put (nd_put B.nd), fun j hj => ?_⟩
  · rcases mem_put h with h | ⟨kv', h1, h2⟩
    · exact ⟨i, hi, h⟩
    · rw [← h2]
      rcases mem_put h1 with h | ⟨kv', h1, h2⟩
      · exact ⟨i, hi, h⟩
      · rw [← h2]; exact B.keys _ h1
  · unfold lays
    rw [valV_put]
    by_cases e : j = i
    · subst e
      rw [if_pos rfl, if_pos rfl]
      exact .inr ⟨q, rfl, w⟩
    · have ne : ¬ (Sum.inl (j : Int) : Key) = Sum.inl (i : Int) := fun z => e (by have := Sum.inl.inj z; omega)
      rw [if_neg e, if_neg ne, valV_put, if_neg ne]
      exact (B.val j hj).imp id fun ⟨q, e', w⟩ => ⟨q, e', w.but kp B.at' ndk.1⟩
theorem len_put2 {kvs : List (Key × V)} {k : Key} {v u : V} : (putK (putK kvs k v) k u).length ≤ kvs.length + 1 := by
  have h : (putK (putK kvs k v) k u).length = (putK kvs k v).length := by
    have a1 := valV_any k (putK kvs k v)
    rw [valV_put, if_pos rfl] at a1
    have a1 : ((putK kvs k v).any fun kv => decide (kv.1 = k)) = true := a1
    rw [show putK (putK kvs k v) k u = _ from if_pos a1, List.length_map]
  rw [h]; exact length_putK _ _ _
theorem dWk {K : PySem.W.Frag} {H : Hp} {q : Addr} {m : Bool} {b : Int} (w : Wk K H q m b) : Dp K H (.ref q) (dw m b) := .tup w.at' (.cons (.bl _) (.cons (.int _) .nil))
theorem str_shaped {s : Str} (h : PyData.strOk s = true) : SeqAt.shaped (.str s) = true := by simp [SeqAt.shaped, PyData.canLay0, PyData.depth, h]
theorem due_ok {m : Bool} {b off : Int} {c : Nat} : PyData.strOk (dueS m b off c) = true := by
  unfold dueS
  (repeat' split) <;> decide +kernel
theorem st_ok {m m2 : Bool} {b off b2 : Int} : PyData.strOk (storeS m b off m2 b2) = true := by
  unfold storeS
  (repeat' split) <;> first | exact due_ok | decide +kernel
theorem shown_eq {d : PyData} {Q : VK} {H : Hp} (q : Q (.bl true) H) : scal (V.str d.shown) (V.str d.shown) = true ∧ Q (.bl (decide (V.str d.shown = V.str d.shown))) H := ⟨rfl, by rw [decide_eq_true rfl]; exact q⟩
theorem due_mark {m : Bool} {b off : Int} {c : Nat} (h : dueS m b off c = Str.ofString "") : m = true := by
  cases m with
  | true => rfl
  | false => unfold dueS at h; rw [if_pos rfl] at h; exact absurd h (by decide +kernel)
theorem store_due {m m2 : Bool} {b off b2 : Int} (h : storeS m b off m2 b2 = Str.ofString "") : dueS m b off 119 = Str.ofString "" := by
  unfold storeS at h
  by_cases c : dueS m b off 119 = Str.ofString ""
  · exact c
  · rw [if_pos c] at h; exact absurd h c
theorem due_in {m : Bool} {b off : Int} {c : Nat} (w : m = true → Law b) (h : dueS m b off c = Str.ofString "") : ∃ i : Nat, (i : Int) = fAt b + off ∧ i < 4096 := by
  have mt := due_mark h
  have ht := (w mt).1
  subst mt
  unfold dueS at h
  rw [if_neg (by decide)] at h
  by_cases k0 : fKind b ≠ 0
  · rw [if_pos k0] at h; exact absurd h (by decide +kernel)
  rw [if_neg k0] at h
  by_cases e : inR c b = false
  · rw [if_pos e] at h; exact absurd h (by decide +kernel)
  rw [if_neg e] at h
  by_cases g : fFirst b * 2 ^ (fStep b).toNat ≤ fAt b + off ∧ fAt b + off < (fFirst b + fCnt b) * 2 ^ (fStep b).toNat
  · have tl : 0 ≤ fFirst b * 2 ^ (fStep b).toNat := Int.mul_nonneg (fb b).2.2.2.2.1 (Int.le_of_lt (pow_pos2 _))
    have th := ht.2.2
    obtain ⟨k, hk⟩ := Int.eq_ofNat_of_zero_le (show 0 ≤ fAt b + off by omega)
    exact ⟨k, hk.symm, by omega⟩
  · rw [if_neg g] at h; exact absurd h (by decide +kernel)
theorem ex4096 : ∃ s, Ex 0 4096 s := by
  refine ⟨8, ⟨by decide, by unfold Dd; decide, fun t ht => ?_⟩, by decide, by decide⟩
  have h : t = 0 ∨ t = 1 ∨ t = 2 ∨ t = 3 ∨ t = 4 ∨ t = 5 ∨ t = 6 ∨ t = 7 := by omega
  unfold Dd
  rcases h with rfl | rfl | rfl | rfl | rfl | rfl | rfl | rfl <;> decide

theorem pr4 {l h : Int} (e : (l, h) ∈ [((16 : Int), (32 : Int)), (30, 34), (0, 4096), (20, 21)]) : Bd l h ∧ ∃ s, Ex l h s := by
  simp only [List.mem_cons, List.not_mem_nil, or_false, Prod.mk.injEq] at e
  rcases e with ⟨rfl, rfl⟩ | ⟨rfl, rfl⟩ | ⟨rfl, rfl⟩ | ⟨rfl, rfl⟩
  · exact ⟨⟨by decide, by decide, by decide⟩, small_ex (by decide) (by decide)⟩
  · exact ⟨⟨by decide, by decide, by decide⟩, small_ex (by decide) (by decide)⟩
  · exact ⟨⟨by decide, by decide, by decide⟩, ex4096⟩
  · exact ⟨⟨by decide, by decide, by decide⟩, small_ex (by decide) (by decide)⟩
theorem kept_list {p L : Addr} {H H' : Hp} {x y : Int} {xs : List V} (P : Pool H p x y) (e : H L = none) (B : But p (upd H L (.lst xs)) H') (P' : Pool (upd H L (.lst xs)) p x y) : H' L = some (.lst xs) := B _ _ (fun z => by subst z; rw [P.1] at e; cases e) upd_same

theorem inc_eq : ∀ {l m : List Int}, l.Pairwise (· < ·) → m.Pairwise (· < ·) → (∀ x, x ∈ l ↔ x ∈ m) → l = m
  | [], [], _, _, _ => rfl
  | [], b :: m, _, _, h => absurd ((h b).mpr List.mem_cons_self) List.not_mem_nil
  | a :: l, [], _, _, h => absurd ((h a).mp List.mem_cons_self) List.not_mem_nil
  | a :: l, b :: m, h1, h2, h => by
    obtain ⟨p1, p2⟩ := List.pairwise_cons.mp h1
    obtain ⟨r1, r2⟩ := List.pairwise_cons.mp h2
    have e : a = b := by
      rcases List.mem_cons.mp ((h a).mp List.mem_cons_self) with e | e
      · exact e
      rcases List.mem_cons.mp ((h b).mpr List.mem_cons_self) with f | f
      · exact f.symm
      have := r1 _ e; have := p1 _ f; omega
    subst e
    rw [inc_eq p2 r2 fun x => ⟨fun hx => ?_, fun hx => ?_⟩]
    · rcases List.mem_cons.mp ((h x).mp (List.mem_cons_of_mem _ hx)) with e | e
      · have := p1 _ hx; omega
      · exact e
    · rcases List.mem_cons.mp ((h x).mpr (List.mem_cons_of_mem _ hx)) with e | e
      · have := r1 _ hx; omega
      · exact e
theorem lt_of_nd {ys : List Int} (h : ys.Pairwise (· ≤ ·)) (n : ys.Nodup) : ys.Pairwise (· < ·) := by
  induction ys with
  | nil => exact .nil
  | cons a l ih =>
    obtain ⟨p1, p2⟩ := List.pairwise_cons.mp h
    obtain ⟨n1, n2⟩ := List.nodup_cons.mp n
    refine .cons (fun x hx => ?_) (ih p2 n2)
    have := p1 _ hx
    have : a ≠ x := fun z => n1 (z ▸ hx)
    omega
/-- the marked cells, from the book's own keys -/
theorem marked_eq {K : PySem.W.Frag} {H : Hp} {D : Addr} {kvs : List (Key × V)} {f : Nat → Bool × Int} {ks ys : List Int} (B : Bk K H D kvs f) (hk : kvs.map (·.1) = ks.map Sum.inl) (hp : ys.Perm ks) (hs : ys.Pairwise (· ≤ ·)) :
    ((List.range 4096).filter fun (i : Nat) => (f i).1).map (fun (i : Nat) => (i : Int)) = ys.filter fun y => (f y.toNat).1 := by
  have nk : ks.Nodup := by
    have n := B.nd
    rw [hk] at n
    exact (List.pairwise_map.mp n).imp fun h e => h (by rw [e])
  have ny : ys.Nodup := hp.nodup_iff.mpr nk
  have inb : ∀ y ∈ ys, ∃ i : Nat, i < 4096 ∧ y = i := fun y hy => by
    have m : (Sum.inl y : Key) ∈ kvs.map (·.1) := by rw [hk]; exact List.mem_map.mpr ⟨y, hp.mem_iff.mp hy, rfl⟩
    obtain ⟨kv, h1, h2⟩ := List.mem_map.mp m
    obtain ⟨i, h3, h4⟩ := B.keys kv h1
    exact ⟨i, h3, Sum.inl.inj (h2.symm.trans h4)⟩
  refine inc_eq ?_ ((lt_of_nd hs ny).filter _) fun x => ?_
  · rw [List.pairwise_map]
    exact (List.pairwise_lt_range.filter _).imp fun h => by omega
  · rw [List.mem_map, List.mem_filter]
    constructor
    · rintro ⟨i, h, rfl⟩
      obtain ⟨h1, h2⟩ := List.mem_filter.mp h
      have h1 := List.mem_range.mp h1
      refine ⟨?_, h2⟩
      rcases B.val i h1 with ⟨_, e⟩ | ⟨q, e, _⟩
      · rw [e] at h2; cases h2
      · have a1 := valV_any (Sum.inl (i : Int) : Key) kvs
        rw [e] at a1
        have a1 : (kvs.any fun kv => decide (kv.1 = Sum.inl (i : Int))) = true := a1
        obtain ⟨kv, h3, h4⟩ := List.any_eq_true.mp a1
        have m : (Sum.inl (i : Int) : Key) ∈ kvs.map (·.1) := List.mem_map.mpr ⟨kv, h3, of_decide_eq_true h4⟩
        rw [hk] at m
        obtain ⟨y, hy, e2⟩ := List.mem_map.mp m
        exact hp.mem_iff.mpr (Sum.inl.inj e2 ▸ hy)
    · rintro ⟨h1, h2⟩
      obtain ⟨i, hi, rfl⟩ := inb x h1
      exact ⟨i, List.mem_filter.mpr ⟨List.mem_range.mpr hi, h2⟩, rfl⟩
theorem book_keys {K : PySem.W.Frag} {H : Hp} {D : Addr} {kvs : List (Key × V)} {f : Nat → Bool × Int} (B : Bk K H D kvs f) : ∃ ks : List Int, kvs.map (·.1) = ks.map Sum.inl := by
  have go : ∀ l : List (Key × V), (∀ kv ∈ l, ∃ i : Nat, i < 4096 ∧ kv.1 = .inl (i : Int)) → ∃ ks : List Int, l.map (·.1) = ks.map Sum.inl := fun l => by
    induction l with
    | nil => exact fun _ => ⟨[], rfl⟩
    | cons kv l ih =>
      intro h
      obtain ⟨ks, e⟩ := ih fun kv hk => h kv (List.mem_cons_of_mem _ hk)
      obtain ⟨i, _, ei⟩ := h kv List.mem_cons_self
      exact ⟨(i : Int) :: ks, by rw [List.map_cons, List.map_cons, e, ei]⟩
  exact go kvs B.keys
theorem key_in {K : PySem.W.Frag} {H : Hp} {D : Addr} {kvs : List (Key × V)} {f : Nat → Bool × Int} {ks : List Int} {y : Int} (B : Bk K H D kvs f) (hk : kvs.map (·.1) = ks.map Sum.inl) (hy : y ∈ ks) : ∃ i : Nat, i < 4096 ∧ y = i := by
  have m : (Sum.inl y : Key) ∈ kvs.map (·.1) := by rw [hk]; exact List.mem_map.mpr ⟨y, hy, rfl⟩
  obtain ⟨kv, h1, h2⟩ := List.mem_map.mp m
  obtain ⟨i, h3, h4⟩ := B.keys kv h1
  exact ⟨i, h3, Sum.inl.inj (h2.symm.trans h4)⟩
theorem key_val {K : PySem.W.Frag} {H : Hp} {D : Addr} {kvs : List (Key × V)} {f : Nat → Bool × Int} {ks : List Int} {y : Int} (B : Bk K H D kvs f) (hk : kvs.map (·.1) = ks.map Sum.inl) (hy : y ∈ ks) : ∃ (i : Nat) (q : Addr), i < 4096 ∧ y = i ∧ valV kvs (.inl (i : Int)) = some (.ref q) ∧ Wk K H q (f i).1 (f i).2 := by
  obtain ⟨i, hi, rfl⟩ := key_in B hk hy
  rcases B.val i hi with ⟨e, _⟩ | ⟨q, e, w⟩
  · have m : (Sum.inl (i : Int) : Key) ∈ kvs.map (·.1) := by rw [hk]; exact List.mem_map.mpr ⟨_, hy, rfl⟩
    obtain ⟨kv, h1, h2⟩ := List.mem_map.mp m
    have a1 := valV_any (Sum.inl (i : Int) : Key) kvs
    rw [e] at a1
    have : (kvs.any fun kv => decide (kv.1 = Sum.inl (i : Int))) = true := List.any_eq_true.mpr ⟨kv, h1, decide_eq_true h2⟩
    rw [this] at a1; cases a1
  · exact ⟨i, q, hi, rfl, e, w⟩
theorem dp_ints {K : PySem.W.Frag} {H : Hp} : ∀ l : List Int, DpAll K H (l.map V.int) (l.map .int)
  | [] => .nil
  | _ :: l => .cons (.int _) (dp_ints l)
theorem canLay_ints : ∀ (l : List Int), PyData.canLayAll0 (l.map .int) = true
  | [] => by simp [PyData.canLayAll0]
  | a :: l => by simp [PyData.canLayAll0, PyData.canLay0, canLay_ints l]
theorem depth_ints : ∀ l : List Int, PyData.depthAll (l.map .int) ≤ 2
  | [] => by simp [PyData.depthAll]
  | a :: l => by have := depth_ints l; simp [PyData.depthAll, PyData.depth]; omega
theorem ints_shaped (l : List Int) : SeqAt.shaped (.list (l.map .int)) = true := by
  have h := depth_ints l
  unfold SeqAt.shaped
  rw [Bool.and_eq_true]
  refine ⟨by rw [PyData.canLay0]; exact canLay_ints l, decide_eq_true ?_⟩
  rw [PyData.depth]; omega
theorem ns_ne {d : PyData} {Q : VK} {H : Hp} (q : Q (.bl false) H) : scal (V.str d.shown) (V.str d.shown) = true ∧ Q (.bl (!decide (V.str d.shown = V.str d.shown))) H := ⟨rfl, by rw [decide_eq_true rfl]; exact q⟩
theorem at12 {j : Nat} {r1 r2 : Int} (a0 : 0 ≤ r1) (a1 : r1 < 20) (b0 : 0 ≤ r2) (b1 : r2 < 4096) : ∃ ad : Nat, ad < 4096 ∧ atI [V.int (16 + r1), .int r2] (if (decide ((9 : Int) < j)) = true then 1 else 0) = some (.int (ad : Int)) := by
  obtain ⟨m1, rfl⟩ := Int.eq_ofNat_of_zero_le a0
  obtain ⟨m2, rfl⟩ := Int.eq_ofNat_of_zero_le b0
  by_cases h : (9 : Int) < j
  · rw [if_pos (decide_eq_true h)]; exact ⟨m2, by omega, atI_nat (j := 1) rfl⟩
  · rw [if_neg (fun z => h (of_decide_eq_true z))]; exact ⟨16 + m1, by omega, atI_nat (j := 0) rfl⟩
/-! ### a run of a list replaced: o[a:c] = e -/
def gSl (to : TE) (tl th : TO) : TG := fun v σ H Q => to σ H fun o H1 => tl σ H1 fun x H2 => th σ H2 fun y H3 => ∃ (l b : Addr) (xs ys : List V) (a c : Int), o = .ref l ∧ v = .ref b ∧ x = some a ∧ y = some c ∧ l ≠ b ∧ H3 l = some (.lst xs) ∧ H3 b = some (.lst ys) ∧ 0 ≤ a ∧ a ≤ c ∧ c ≤ xs.length ∧ xs.length + ys.length ≤ sizeLine ∧
  Q σ (upd H3 l (.lst (xs.take a.toNat ++ ys ++ xs.drop c.toNat)))
theorem pg_sl {X : Cx} {o : Expr} {lo hi : Option Expr} {to : TE} {tl th : TO} {pos p2 : Pos} (ho : PE X o to) (hl : PO X lo tl) (hu : PO X hi th)
    (ha : ∀ v, assign (.Subscript o (.Slice lo hi none p2) pos) X.env v = (do
      let ov ← holding [v] (eval o X.env)
      let iv ← holding [v, ov] (eval (.Slice lo hi none p2) X.env)
      standAt pos
      holding [v, ov, iv] (setItem ov iv v)
      release [iv, v, ov] []) := by intro _; rfl) : PG X (.Subscript o (.Slice lo hi none p2) pos) (gSl to tl th) := by
  refine ⟨fun pins s σ H v u Q I r h => ?_⟩
  rw [ha]
  refine wpAny_bind (wpAny_holding (thn (ho.run pins s σ H _ I h) fun ov s1 ⟨x, H1, I1, r1, q1⟩ => ?_))
  refine wpAny_bind (wpAny_holding ?_)
  refine wpAny_Slice (thn (hl.run pins s1 σ H1 _ I1 q1) fun vl s2 ⟨l, H2, I2, pl, q2⟩ => thn (hu.run pins s2 σ H2 _ I2 q2) fun vu s3 ⟨y, H3, I3, pu, q3⟩ => ?_)
  rw [evalPart_none]
  refine wpAny_pure ?_
  have I4 : Inv X pins σ H3 { s3 with heap := s3.heap.push { cls := .type "slice", data := .fields #[vl, vu, .none] } } := I3.kept (t' := s3.toks) fun b ob q => Heap.get?_push_of_some _ q
  obtain ⟨l', b, xs, ys, a, c, rfl, rfl, rfl, rfl, ne, hl', hb', h0, hac, hc, hz, q⟩ := q3
  obtain rfl : ov = Value.ref l' := r1
  obtain rfl : u = Value.ref b := r
  refine wpAny_bind (wpAny_standAt (wpAny_bind (wpAny_holding ?_)))
  have ra : RelV (.int a) vl := by cases pl; exact ⟨_, rfl⟩
  have rc : RelV (.int c) vu := by cases pu; exact ⟨_, rfl⟩
  refine set_slice I4 hl' hb' ne (Heap.IsSliceOf.new ..) ra rc h0 hac hc hz fun s' I5 => ?_
  exact wpAny_release ⟨σ, _, I5, q⟩
/-! ### == by an own __eq__ that answers either way -/
structure EqN (P : Program) (w : World) (K : PySem.W.Frag) (mg : Str → Option Value) (base : Heap) (x : Str) (k : Nat) (sp : Sp) : Prop where
  ex : ∃ (C f : Addr) (fd : FuncData), PySem.W.nsIn K mainGlobals x = some (some (.ref C)) ∧ PySem.W.findIn K (.ref C) "__eq__" = some (some (.ref f)) ∧ PySem.W.isFn K (.ref f) = true ∧ PySem.W.subIn K (.type "str") (.ref C) = some false ∧ PySem.W.findIn K (.ref C) "__ne__" = some (some (.builtin "object.__ne__")) ∧ PySem.W.mroIn K C (.type "object") = some true ∧ FnOk P w K mg base CX0 k f fd ["self", "other"] sp ∧ Binds K fd ["self", "other"] []
/-- the right side: an instance of the same class, or a text -/
def EqSide (K : PySem.W.Frag) (x : Str) (H : Hp) : V → Prop := fun v => (∃ b gs, v = .ref b ∧ InsOf K x H b gs) ∨ ∃ s, v = .str s
def rEqO (K : PySem.W.Frag) (x : Str) (sp : Sp) : R2 := fun u v H Q => ∃ (a : Addr) (fs : List (Str × V)), u = .ref a ∧ InsOf K x H a fs ∧ EqSide K x H v ∧ sp [u, v] H (fun r H' => ∃ b, r = .bl b ∧ Q (.bl b) H') E0
theorem op_eqO {X : Cx} {x : Str} {k : Nat} {sp : Sp} (M : EqN X.prog X.w X.K X.mg X.base x k sp) (hr : Room k X.A) : OpR X (compareOp .Eq) (rEqO X.K x sp) := by
  intro pins s σ H u v uu vv Q I ru rv hq
  obtain ⟨a, fs, rfl, ⟨C', dx, hC', ha⟩, side, hsp⟩ := hq
  obtain ⟨C, f, fd, hC, hs, hf, hstr, _, _, F, hb⟩ := M.ex
  cases ns_one hC hC'
  obtain rfl : uu = Value.ref a := ru
  obtain ⟨mA, J, _⟩ := ins_get I.hok ha
  obtain ⟨od, J, _⟩ := J.look
  obtain ⟨m, hF⟩ := I.fr
  show wpAny (model X.prog X.w) X.A (richCompare .Eq (.ref a) vv) (EP X pins σ Q) X.xe s
  have go : wpAny (model X.prog X.w) X.A (call (.ref f) [.ref a, vv]) (PySem.W.CmpBack (EP X pins σ Q)) X.xe s := by
    refine wpAny_mono (run_fn (us := [.ref a, vv]) (vs := [.ref a, v]) (E := E0) F hr hb .nil pass0 I (.cons rfl (.cons rv .nil)) hsp) (fun r s' z => ?_) fun _ _ z => z
    obtain ⟨y, H', I', rr, b, rfl, q⟩ := z
    obtain rfl : r = Value.bool b := rr
    exact ⟨.bl b, H', I', rfl, q⟩
  rcases side with ⟨b, gs, rfl, C2, dx2, hC2, hb2⟩ | ⟨z, rfl⟩
  · cases ns_one hC hC2
    obtain rfl : vv = Value.ref b := rv
    obtain ⟨mB, J', _⟩ := ins_get I.hok hb2
    obtain ⟨od', J', _⟩ := J'.look
    exact PySem.W.cmp_K (op := .Eq) (tb := .ref C') (by have := hr.un; omega) hF I.ok.mod.kin J J'.type (by simp [PySem.W.notFirst]) hs hf go
  · obtain ⟨t, rfl⟩ := rv
    exact PySem.W.cmp_K (op := .Eq) (tb := .type "str") (by have := hr.un; omega) hF I.ok.mod.kin J (.of_pure rfl) (by simp [PySem.W.notFirst, hstr]) hs hf go
/-! ### != by an own __eq__: the object's __ne__ turns its answer -/
section
open PySem.Builtin
variable {prog : Program} {w : World} {A : Around} {E : Value → Shared → Prop} {s : Shared} {K : PySem.W.Frag} {x C : Addr} {ox : Obj} {od : Option Obj}
theorem ifBound_objNe {M : Model} {args : List Value} {Q : Option Value → Shared → Prop} (X : K.In s.heap) (I : PySem.W.InstAt s.heap x ox C od) (hs : PySem.W.findIn K (.ref C) "__ne__" = some (some (.builtin "object.__ne__")))
    (h : wpAny M A (call (.builtin "object.__ne__") (.ref x :: args)) (fun v => Q (some v)) E s) : wpAny M A (callSpecialIfBound? (.ref x) "__ne__" args) Q E s := by
  simp only [callSpecialIfBound?, bindSpecialIfBound?]
  refine wpAny_holding (wpAny_bind (wpAny_bind (wpAny_bind (I.type.here ((PySem.W.looks_findIn X hs).here ?_)))))
  refine wpAny_bind (wpAny_askSetting (wpAny_ite ?_))
  have fin : wpAny M A (call (.builtin "object.__ne__") ([.ref x] ++ args) >>= fun v => pure (some v)) Q E s := wpAny_bind (wpAny_mono h (fun v s' h' => wpAny_pure h') fun _ _ h' => h')
  split
  · exact wpAny_bind (wpAny_of_eq (F.cmp_object.ne.bind _) (wpAny_pure (by exact fin)))
  · exact wpAny_tryCatch (wpAny_bind (wpAny_of_eq (F.cmp_object.ne.bind _) (wpAny_pure (by exact fin))))
theorem entry_objNe {b : Value} {f : Addr} {Q : Value → Shared → Prop} (hu : A.units < cLine) (X : K.In s.heap) (I : PySem.W.InstAt s.heap x ox C od) (hs : PySem.W.findIn K (.ref C) "__eq__" = some (some (.ref f))) (hf : PySem.W.isFn K (.ref f) = true)
    (h : wpAny (model prog w) A (call (.ref f) [.ref x, b]) (fun v s' => ∃ r, v = .bool r ∧ Q (.bool (!r)) s') E s) :
    wpAny (model prog w) A (Builtin.«object.__ne__» ⟨[.ref x, b], []⟩) (fun fin s' => ∃ v, fin = .done (.ret v) ∧ Q v s') E s := by
  unfold Builtin.«object.__ne__»
  repeat (first | with_reducible refine wpAny_cRoomFor hu ?_ | with_reducible refine PySem.W.ifBound_K X I hs hf (wpAny_mono h (fun v s' hv => ?_) fun _ _ z => z) | wp_step)
  obtain ⟨r, rfl, q⟩ := hv
  exact wpAny_bind (wpAny_truthy_bool (wpAny_pure ⟨_, rfl, q⟩))
theorem call_objNe {b : Value} {f : Addr} {Q : Value → Shared → Prop} (hu : A.units + 1 < cLine) (X : K.In s.heap) (I : PySem.W.InstAt s.heap x ox C od) (hm : PySem.W.mroIn K C (.type "object") = some true) (hs : PySem.W.findIn K (.ref C) "__eq__" = some (some (.ref f))) (hf : PySem.W.isFn K (.ref f) = true)
    (h : wpAny (model prog w) A.in1 (call (.ref f) [.ref x, b]) (fun v s' => ∃ r, v = .bool r ∧ Q (.bool (!r)) s') E s) : wpAny (model prog w) A (call (.builtin "object.__ne__") [.ref x, b]) Q E s := by
  refine wpAny_call (codeAny_call_builtin F.cmp_object.ne.plain F.cmpEntry_ne (PySem.W.check_slot F.cmpKind_ne F.cmpSplit_ne (I.type.andThen (PySem.W.looks_mroIn X hm)) (F.cmpArgs_ne _ _) ?_))
  refine wpAny_mono (entry_objNe (A := A.in1) (by show A.units + 1 < cLine; exact hu) X I hs hf h) (fun fin s' z => ?_) fun _ _ z => z
  obtain ⟨v, rfl, q⟩ := z
  exact q
end

section
variable {prog : Program} {w : World} {A : Around} {E : Value → Shared → Prop} {s : Shared} {K : PySem.W.Frag} {x C f : Addr} {ox : Obj} {od : Option Obj} {b tb : Value} {L : Addr} {h₀ : Heap} {m : Str → Option Value}
theorem cmp_ne {Q : Value → Shared → Prop} (hu : A.units + 1 < cLine) (Fr' : Fr h₀ L s.heap m) (X₀ : K.In h₀) (I : PySem.W.InstAt s.heap x ox C od) (hb : PySem.W.Looks (model prog w) s.heap (typeOf b) tb) (hn : PySem.W.notFirst K C tb = true)
    (hne : PySem.W.findIn K (.ref C) "__ne__" = some (some (.builtin "object.__ne__"))) (hm : PySem.W.mroIn K C (.type "object") = some true)
    (hs : PySem.W.findIn K (.ref C) "__eq__" = some (some (.ref f))) (hf : PySem.W.isFn K (.ref f) = true)
    (h : wpAny (model prog w) A.in1 (call (.ref f) [.ref x, b]) (fun v s' => ∃ r, v = .bool r ∧ Q (.bool (!r)) s') E s) : wpAny (model prog w) A (richCompare .NotEq (.ref x) b) Q E s := by
  have X := X₀.keeps Fr'.keep
  have one : wpAny (model prog w) A (tryCompare (.ref x) "__ne__" b) (fun r s' => ∃ v, r = some v ∧ Q v s') E s := by
    unfold tryCompare
    have h2 : wpAny (model prog w) A.in1 (call (.ref f) [.ref x, b]) (fun v s' => ∃ r, v = .bool r ∧ (fun v s' => ∃ r, v = .bool r ∧ Q v s') (.bool (!r)) s') E s := wpAny_mono h (fun v s' ⟨r, e, q⟩ => ⟨r, e, _, rfl, q⟩) fun _ _ z => z
    refine wpAny_bind (ifBound_objNe X I hne (wpAny_mono (call_objNe (Q := fun v s' => ∃ r, v = .bool r ∧ Q v s') hu X I hm hs hf h2) (fun v s' hv => ?_) fun _ _ e => e))
    obtain ⟨r, rfl, q⟩ := hv
    exact wpAny_pure ⟨_, rfl, q⟩
  unfold richCompare
  simp only [oneThing_ref]
  refine wpAny_holding (wpAny_bind (wpAny_cRoomFor (by omega) ?_))
  refine wpAny_bind (I.type.here (wpAny_bind (hb.here ?_)))
  split
  · rename_i q
    have e : PySem.W.subIn K tb (.ref C) = some false := by
      rcases Bool.or_eq_true_iff.mp hn with e | e
      · rw [beq_iff_eq.mp e] at q; simp at q
      · exact beq_iff_eq.mp e
    refine wpAny_bind ((PySem.W.looks_subIn X e).here ?_)
    simp only [Bool.false_eq_true, if_false]
    refine wpAny_bind (wpAny_mono one (fun r s' z => ?_) fun _ _ e => e)
    obtain ⟨v, rfl, hq⟩ := z
    exact wpAny_pure hq
  · refine wpAny_bind (wpAny_pure ?_)
    simp only [Bool.false_eq_true, if_false]
    refine wpAny_bind (wpAny_mono one (fun r s' z => ?_) fun _ _ e => e)
    obtain ⟨v, rfl, hq⟩ := z
    exact wpAny_pure hq
end
def rNeO (K : PySem.W.Frag) (x : Str) (sp : Sp) : R2 := fun u v H Q => ∃ (a : Addr) (fs : List (Str × V)), u = .ref a ∧ InsOf K x H a fs ∧ EqSide K x H v ∧ sp [u, v] H (fun r H' => ∃ b, r = .bl b ∧ Q (.bl (!b)) H') E0
theorem op_neO {X : Cx} {x : Str} {k : Nat} {sp : Sp} (M : EqN X.prog X.w X.K X.mg X.base x k sp) (hr : Room (k + 1) X.A) : OpR X (compareOp .NotEq) (rNeO X.K x sp) := by
  intro pins s σ H u v uu vv Q I ru rv hq
  obtain ⟨a, fs, rfl, ⟨C', dx, hC', ha⟩, side, hsp⟩ := hq
  obtain ⟨C, f, fd, hC, hs, hf, hstr, hne, hm, F, hb⟩ := M.ex
  cases ns_one hC hC'
  obtain rfl : uu = Value.ref a := ru
  obtain ⟨mA, J, _⟩ := ins_get I.hok ha
  obtain ⟨od, J, _⟩ := J.look
  obtain ⟨m, hF⟩ := I.fr
  show wpAny (model X.prog X.w) X.A (richCompare .NotEq (.ref a) vv) (EP X pins σ Q) X.xe s
  have sb : L2.Sub X k X.A.in1 := L2.Sub.in1 (⟨hr, rfl⟩ : L2.Sub X (k + 1) X.A)
  have e0 : Env0 X.prog X.w X.K X.mg X.base X.A.in1 X.stack s H := by
    have e := I.env0
    exact ⟨by rw [sb.fr]; exact e.frames, e.mod, e.bs, e.bsz, e.funs, e.frf, e.hok, e.bare⟩
  have r2 : Vals [V.ref a, v] [Value.ref a, vv] := .cons rfl (.cons rv .nil)
  have bd := hb s [Value.ref a, vv] I.kIn (by simp)
  rw [List.append_nil] at bd
  have go : wpAny (model X.prog X.w) X.A.in1 (call (.ref f) [.ref a, vv]) (fun r s' => ∃ b, r = .bool b ∧ EP X pins σ Q (.bool (!b)) s') X.xe s := by
    refine wpAny_call (codeAny_mono (F.run X.A.in1 X.stack s H ⟨[.ref a, vv], []⟩ [.ref a, vv] [.ref a, v] _ E0 sb.room e0 bd r2 hsp) fun r s' hq => ?_)
    cases r with
    | error e => exact pass0 pins σ H s e s' I hq
    | ok fl =>
      cases fl with
      | ret w' =>
        obtain ⟨z, H', I', rz, b, rfl, q⟩ := I.after hq
        obtain rfl : w' = Value.bool b := rz
        exact ⟨b, rfl, .bl (!b), H', I', rfl, q⟩
      | next => exact False.elim hq
      | brk => exact False.elim hq
      | cont => exact False.elim hq
  rcases side with ⟨b, gs, rfl, C2, dx2, hC2, hb2⟩ | ⟨z, rfl⟩
  · cases ns_one hC hC2
    obtain rfl : vv = Value.ref b := rv
    obtain ⟨mB, J', _⟩ := ins_get I.hok hb2
    obtain ⟨od', J', _⟩ := J'.look
    exact cmp_ne (tb := .ref C') (by have := hr.un; omega) hF I.ok.mod.kin J J'.type (by simp [PySem.W.notFirst]) hne hm hs hf go
  · obtain ⟨t, rfl⟩ := rv
    exact cmp_ne (tb := .type "str") (by have := hr.un; omega) hF I.ok.mod.kin J (.of_pure rfl) (by simp [PySem.W.notFirst, hstr]) hne hm hs hf go

theorem dp_words {K : PySem.W.Frag} {H : Hp} : ∀ {ws : List V} {f : Nat → Bool × Int}, (∀ i, i < ws.length → ∃ q, ws[i]? = some (.ref q) ∧ Wk K H q (f i).1 (f i).2) → DpAll K H ws ((List.range ws.length).map fun i => dw (f i).1 (f i).2)
  | [], _, _ => .nil
  | w :: ws, f, h => by
    rw [List.length_cons, List.range_succ_eq_map, List.map_cons, List.map_map]
    obtain ⟨q, e, k⟩ := h 0 (by simp)
    have e : w = .ref q := Option.some.inj e
    subst e
    exact .cons (dWk k) (dp_words (f := fun i => f (i + 1)) fun i hi => h (i + 1) (by simpa using hi))
theorem lay_words {f : Nat → Bool × Int} : ∀ l : List Nat, PyData.canLayAll0 (l.map fun i => dw (f i).1 (f i).2) = true
  | [] => by simp [PyData.canLayAll0]
  | a :: l => by
    rw [List.map_cons, PyData.canLayAll0, lay_words l, Bool.and_true, show dw (f a).1 (f a).2 = .tuple [.bool (f a).1, .int (f a).2] from rfl]
    simp [PyData.canLayAll0, PyData.canLay0]
theorem dep_words {f : Nat → Bool × Int} : ∀ l : List Nat, PyData.depthAll (l.map fun i => dw (f i).1 (f i).2) ≤ 3
  | [] => by simp [PyData.depthAll]
  | a :: l => by
    have h := dep_words (f := f) l
    have e : (dw (f a).1 (f a).2).depth ≤ 3 := by
      rw [show dw (f a).1 (f a).2 = .tuple [.bool (f a).1, .int (f a).2] from rfl]
      simp [PyData.depthAll, PyData.depth]
    rw [List.map_cons, PyData.depthAll]
    omega
theorem shaped_words {f : Nat → Bool × Int} (l : List Nat) : SeqAt.shaped (.list (l.map fun i => dw (f i).1 (f i).2)) = true := by
  have h := dep_words (f := f) l
  unfold SeqAt.shaped
  rw [Bool.and_eq_true]
  refine ⟨by rw [PyData.canLay0]; exact lay_words l, decide_eq_true ?_⟩
  rw [PyData.depth]; omega
theorem eqv_words {f g : Nat → Bool × Int} : ∀ l : List Nat, PyData.eqvAll (l.map fun i => dw (f i).1 (f i).2) (l.map fun i => dw (g i).1 (g i).2) = true ↔ ∀ i ∈ l, f i = g i
  | [] => by simp [PyData.eqvAll]
  | a :: l => by
    rw [List.map_cons, List.map_cons, PyData.eqvAll, Bool.and_eq_true, eqv_words l, show dw (f a).1 (f a).2 = .tuple [.bool (f a).1, .int (f a).2] from rfl, show dw (g a).1 (g a).2 = .tuple [.bool (g a).1, .int (g a).2] from rfl, tw_eqv]
    constructor
    · rintro ⟨⟨h1, h2⟩, h3⟩ i hi
      rcases List.mem_cons.mp hi with e | e
      · subst e; exact Prod.ext h1 h2
      · exact h3 i e
    · intro h
      have e := h a List.mem_cons_self
      exact ⟨⟨by rw [e], by rw [e]⟩, fun i hi => h i (List.mem_cons_of_mem _ hi)⟩
theorem run_at {xs : List V} {x : V} {a b i : Nat} (hab : a ≤ b) (hb : b ≤ xs.length) : (xs.take a ++ List.replicate (b - a) x ++ xs.drop b)[i]? = if a ≤ i ∧ i < b then some x else xs[i]? := by
  rw [List.append_assoc, List.getElem?_append, List.length_take, Nat.min_eq_left (by omega)]
  by_cases h1 : i < a
  · rw [if_pos h1, List.getElem?_take, if_pos h1, if_neg (by omega)]
  · rw [if_neg h1, List.getElem?_append, List.length_replicate]
    by_cases h2 : i - a < b - a
    · rw [if_pos h2, List.getElem?_replicate, if_pos h2, if_pos (by omega)]
    · rw [if_neg h2, List.getElem?_drop, if_neg (by omega)]; congr 1; omega
/-- a run of cells made empty -/
def clears (f : Nat → Bool × Int) (lo hi : Int) : Nat → Bool × Int := fun j => if lo ≤ (j : Int) ∧ (j : Int) < hi then (false, 0) else f j

/-! ### what is none -/
def Odd (H : Hp) (l m : Int) (v : V) : Prop := Kd H v ∧ ∀ n, v = .int n → ¬ (l ≤ n ∧ n ≤ m)
def NoBd (H : Hp) (v u : V) : Prop := Kd H v ∧ Kd H u ∧ ∀ a b, v = .int a → u = .int b → ¬ Bd a b
def BadW (H : Hp) (v : V) : Prop := (∃ p xs, v = .ref p ∧ H p = some (.tup xs) ∧ (∀ x ∈ xs, Kd H x) ∧ ¬ ∃ m n, xs = [.bl m, .int n] ∧ W45 n ∧ (m = true → Law n)) ∨ NoT H v
theorem Odd.same {H H' : Hp} {l m : Int} {v : V} (h : Odd H l m v) (s : Same H H') : Odd H' l m v := ⟨h.1.same s, h.2⟩
theorem NoBd.same {H H' : Hp} {v u : V} (h : NoBd H v u) (s : Same H H') : NoBd H' v u := ⟨h.1.same s, h.2.1.same s, h.2.2⟩
/-- as fun_okD, for a def that raises -/
theorem fun_okDX {P : Program} {w : World} {K : PySem.W.Frag} {mg : Str → Option Value} {base : Heap} {x qual : Str} {params : Arguments} {body : List Stmt} {scope : Scope} {dvs : List V} {kws : List (Str × V)} {f : Addr} {fd : FuncData} {N ps : List Str} {k : Nat} {sp : Sp} (F : FunD K x qual params body scope dvs kws f fd) (S : FnScope N ps scope) (len : ∀ vs H Q E, sp vs H Q E → vs.length = ps.length)
    (hbody : ∀ (cdv : Value) (A : Around) (outer : List Env) (s : Shared) (H : Hp) (vs : List V) (Q : VK) (E : XK), Room k (A.deeper (envOfC qual scope s.heap.objs.size f cdv)) → sp vs H Q E →
      ∃ t, PSs (cxOf (L2.CX P w) P w K mg base N qual scope f cdv A outer s H E) body t ∧ t { nx := fun _ H' => Q .non H', rt := Q } (start N vs) H) : FnOk P w K mg base (L2.CX P w) (k + 1) f fd ps sp :=
  F.ok S len fun cdv A outer s H vs Q E hr hsp => hbody cdv A outer s H vs Q E hr hsp
theorem NoT.same {H H' : Hp} {v : V} (k : NoT H v) (s : Same H H') : NoT H' v := by
  cases k with
  | non => exact .non
  | bl b => exact .bl b
  | int i => exact .int i
  | str x => exact .str x
  | lst e => exact .lst (s _ _ e)
  | dk e => exact .dk (s _ _ e)
theorem BadW.same {H H' : Hp} {v : V} (h : BadW H v) (s : Same H H') : BadW H' v := by
  rcases h with ⟨p, xs, e, h1, h2, h3⟩ | h
  · exact .inl ⟨p, xs, e, s _ _ h1, fun x hx => (h2 x hx).same s, h3⟩
  · exact .inr (h.same s)
/-- the class of errors by its number -/
def ErrAt (K : PySem.W.Frag) (k : Nat) (C : Addr) : Prop := PySem.W.nsIn K mainGlobals (if k = 0 then "NoAddress" else if k = 1 then "NoWord" else if k = 2 then "NoOffset" else "NoBounds") = some (some (.ref C))
/-- by which door what comes -/
structure DueBad (H : Hp) (d : Int) (v : V) (k : Nat) : Prop where
  adr : d = 0 ∨ d = 1 → Odd H 0 4095 v ∧ k = 0
  wrd : d = 2 → BadW H v ∧ k = 1
  off : d = 3 ∨ d = 4 ∨ d = 5 → Odd H (-8) 15 v ∧ k = 2
  low : d = 6 ∨ d = 7 → NoBd H v (.int 4) ∧ k = 3
  high : d = 8 ∨ d = 9 → NoBd H (.int 0) v ∧ k = 3
  both : d = 10 ∨ d = 11 → (∃ p a b, v = .ref p ∧ H p = some (.tup [a, b]) ∧ NoBd H a b) ∧ k = 3
  rest : 12 ≤ d → (Odd H 0 4095 v ∧ k = 0) ∨ (v = .int 5 ∧ k = 1)
  four : k < 4
theorem with_finE {A P : Addr → Addr → V → Hp → Prop} {G : Prop} (h : ∀ C d v H, A C d v H → P C d v H) (k : (∀ C d v H, A C d v H → P C d v H) → G) : G := k h

theorem due_nil {b lo hi at' off : Int} {p : Nat → Bool} {s c : Nat} (W : WF b lo hi at' p 0 s) (hc : decide (c ∈ (rtx p).cps.toList) = true) (h1 : lo ≤ at' + off) (h2 : at' + off < hi) : dueS true b off c = Str.ofString "" := by
  obtain ⟨_, _, t5, k0, a0, _⟩ := W.all
  obtain ⟨l1, l2⟩ := W.lohi
  unfold tup5 at t5
  injection t5 with _ t5; injection t5 with _ t5; injection t5 with _ t5; injection t5 with e _
  injection e with e
  unfold dueS inR
  rw [if_neg (by decide), if_neg (by rw [k0]; decide), e, if_neg (by rw [hc]; decide), l1, l2, a0, if_pos ⟨h1, h2⟩]
theorem store_nil {b off b2 : Int} (h : dueS true b off 119 = Str.ofString "") : storeS true b off false b2 = Str.ofString "" := by
  unfold storeS
  rw [if_neg (fun z => z h), if_pos rfl]
theorem same_at {H G : Hp} {L : Addr} {o : HO} (n : H L = none) (s : Same H G) : Same H (upd G L o) := fun b x e => by rw [upd_ne (ne_of_none e n)]; exact s b x e
theorem lays_const {m : Bool} {b : Int} {i : Nat} : lays (fun _ => (m, b)) i m b = fun _ => (m, b) := by
  funext j; unfold lays; split <;> rfl
theorem lays_over {f : Nat → Bool × Int} {m m2 : Bool} {b b2 : Int} {i : Nat} : lays (lays f i m b) i m2 b2 = lays f i m2 b2 := by
  funext j; unfold lays; split <;> rfl
theorem filt_false : ((List.range 4096).filter fun (i : Nat) => false).map (fun (i : Nat) => V.int (i : Int)) = [] := by
  rw [List.filter_eq_nil_iff.mpr (fun a _ => by decide)]; rfl

theorem words_fit {f : Nat → Bool × Int} : ∀ (l : List Nat), (∀ i ∈ l, W45 (f i).2) → PyData.showableAll (l.map fun i => dw (f i).1 (f i).2) = true ∧ PyData.hasDictAll (l.map fun i => dw (f i).1 (f i).2) = false ∧ PyData.leavesShortAll 600 (l.map fun i => dw (f i).1 (f i).2) = true ∧ PyData.weightAll (l.map fun i => dw (f i).1 (f i).2) ≤ 61 * l.length ∧ PyData.depthAll (l.map fun i => dw (f i).1 (f i).2) ≤ 2
  | [], _ => by simp [PyData.showableAll, PyData.hasDictAll, PyData.leavesShortAll, PyData.weightAll, PyData.depthAll]
  | a :: l, h => by
    obtain ⟨a1, a2, a3, a4, a5⟩ := dw_small (m := (f a).1) (h a List.mem_cons_self)
    obtain ⟨b1, b2, b3, b4, b5⟩ := words_fit l fun i hi => h i (List.mem_cons_of_mem _ hi)
    simp only [List.map_cons, PyData.showableAll, PyData.hasDictAll, PyData.leavesShortAll, PyData.weightAll, PyData.depthAll, a1, a2, a3, b1, b2, b3, List.length_cons]
    refine ⟨rfl, rfl, rfl, by omega, by omega⟩
def d64 (f : Nat → Bool × Int) : PyData := .list ((List.range 64).map fun i => dw (f i).1 (f i).2)
theorem d64_fit {f : Nat → Bool × Int} (h : ∀ i, i < 64 → W45 (f i).2) : (d64 f).showable = true ∧ (d64 f).hasDict = false ∧ (d64 f).depth ≤ 50 ∧ (d64 f).shown.length ≤ sizeLine := by
  obtain ⟨a1, a2, a3, a4, a5⟩ := words_fit (f := f) (List.range 64) fun i hi => h i (List.mem_range.mp hi)
  rw [List.length_range] at a4
  have l : (d64 f).leavesShort 600 = true := by unfold d64; simp only [PyData.leavesShort, a3]
  have w : (d64 f).weight ≤ 5000 := by unfold d64; simp only [PyData.weight]; omega
  refine ⟨by unfold d64; simp only [PyData.showable, a1], by unfold d64; simp only [PyData.hasDict, a2], by unfold d64; simp only [PyData.depth]; omega, ?_⟩
  have := PyData.shown_le 600 (by decide) _ l
  rw [sizeLine_eq]; omega
theorem dp_64 {K : PySem.W.Frag} {G : Hp} {c L : Addr} {ws : List V} {f : Nat → Bool × Int} (C : Cel K G c L ws f) : DpAll K G ((List.range 64).map fun i => ws.getD i .non) ((List.range 64).map fun i => dw (f i).1 (f i).2) := by
  have go : ∀ l : List Nat, (∀ i ∈ l, i < 4096) → DpAll K G (l.map fun i => ws.getD i .non) (l.map fun i => dw (f i).1 (f i).2) := fun l => by
    induction l with
    | nil => exact fun _ => .nil
    | cons a l ih =>
      intro h
      obtain ⟨q, e, w⟩ := C.all a (h a List.mem_cons_self)
      refine .cons ?_ (ih fun i hi => h i (List.mem_cons_of_mem _ hi))
      have e2 : ws.getD a .non = .ref q := by rw [List.getD_eq_getElem?_getD, e]; rfl
      show Dp K G (ws.getD a .non) _
      rw [e2]
      exact dWk w
  exact go _ fun i hi => by have := List.mem_range.mp hi; omega
theorem Cel.w45 {K : PySem.W.Frag} {G : Hp} {c L : Addr} {ws : List V} {f : Nat → Bool × Int} (C : Cel K G c L ws f) {i : Nat} (hi : i < 4096) : W45 (f i).2 := by
  obtain ⟨q, e, w⟩ := C.all i hi
  exact w.w

theorem eqv1 {k : Int} : PyData.eqv (.list [.int k]) (.list [.int k]) = true := PySem.SeqAt.eqv_refl _ (PySem.SeqAt.canLay_of_shaped (ints_shaped [k]))
mutual
theorem Dp.sm {K : PySem.W.Frag} {H H' : Hp} (s : Same H H') : ∀ {v : V} {d : PyData}, Dp K H v d → Dp K H' v d
  | _, _, .non => .non
  | _, _, .bl b => .bl b
  | _, _, .int i => .int i
  | _, _, .str x => .str x
  | _, _, .lst h k => .lst (s.seq h) (DpAll.sm s k)
  | _, _, .tup h k => .tup (seqT2 (fun o e => s _ o e) h) (DpAll.sm s k)
theorem DpAll.sm {K : PySem.W.Frag} {H H' : Hp} (s : Same H H') : ∀ {vs : List V} {ds : List PyData}, DpAll K H vs ds → DpAll K H' vs ds
  | _, _, .nil => .nil
  | _, _, .cons h k => .cons (Dp.sm s h) (DpAll.sm s k)
end
theorem DpAll.app {K : PySem.W.Frag} {H : Hp} {v : V} {d : PyData} (hv : Dp K H v d) : ∀ {vs : List V} {ds : List PyData}, DpAll K H vs ds → DpAll K H (vs ++ [v]) (ds ++ [d])
  | _, _, .nil => .cons hv .nil
  | _, _, .cons h k => .cons h (DpAll.app hv k)
theorem DpAll.len {K : PySem.W.Frag} {H : Hp} : ∀ {vs : List V} {ds : List PyData}, DpAll K H vs ds → vs.length = ds.length
  | _, _, .nil => rfl
  | _, _, .cons _ k => congrArg (· + 1) (DpAll.len k)
/-- the heap but for what stands at D -/
def hid (D : Addr) (H : Hp) : Hp := fun b => if b = D then none else H b
theorem hid_at {D p : Addr} {H : Hp} {o : HO} (n : p ≠ D) (e : H p = some o) : hid D H p = some o := by unfold hid; rw [if_neg n]; exact e
theorem hid_of (D : Addr) (H : Hp) : Same (hid D H) H := fun b o e => by
  unfold hid at e
  split at e
  · cases e
  · exact e
/-- a comprehension whose values are known as data -/
theorem lc_data (K : PySem.W.Frag) {J : It} {n : Nat} {G : Hp → Prop} {Y : Nat → Hp → V → Hp → Prop} (w : Walk J n G Y) {g : TG} {tt : TT} {te : TE} {vs : List Nat} {σ : L2.St} {H1 : Hp} {D : Addr} {Qd : Hp → Prop}
    (dv : Nat → PyData) (hD : H1 D = none) (hn : n < sizeLine) (hG : ∀ H, Same H1 H → G H)
    (hs : ∀ i x H H', i < n → Same H1 H → (∀ p, H p = none → p ≠ D) → Y i H x H' → ∀ (k : VK) (m : Hp → Prop), (∀ v H4, Same H H4 → Dp K (hid D H4) v (dv i) → k v H4) →
      g x (wipe σ vs) H' fun σ2 H2 => wipe σ2 vs = wipe σ vs ∧ tt σ2 H2 fun b H3 => if b = true then te σ2 H3 k else m H3)
    (hd : ∀ H acc, Same H1 H → H D = some (.lst acc) → DpAll K H acc ((List.range n).map dv) → Qd H) :
    ∃ W : Nat → Nat → Hp → Prop, (∃ m, W 0 m (upd H1 D (.lst []))) ∧ ∀ i m H, W i m H →
      (J.stop i H ∧ Qd H) ∨ (J.go i H ∧ ∃ Nx : Hp → Prop, (∀ H', Nx H' → ∃ m', m' < m ∧ W (i + 1) m' H') ∧ ∀ x H', J.yld i H x H' → g x (wipe σ vs) H' fun σ2 H2 => wipe σ2 vs = wipe σ vs ∧ tt σ2 H2 fun b H3 =>
        if b = true then te σ2 H3 fun y H4 => ∃ acc, H4 D = some (.lst acc) ∧ acc.length < sizeLine ∧ Nx (upd H4 D (.lst (acc ++ [y]))) else Nx H3) := by
  refine lc_it w (fun i H => Same H1 H ∧ ∃ acc, H D = some (.lst acc) ∧ DpAll K (hid D H) acc ((List.range i).map dv)) ⟨same_new hD, [], upd_same, .nil⟩ (fun i H _ p => hG H p.1) (fun i x H H' hi p y => ?_) (fun H p => ?_)
  · obtain ⟨p1, acc, p2, p3⟩ := p
    refine hs i x H H' hi p1 (fun p hp z => by subst z; rw [p2] at hp; cases hp) y _ _ fun v H4 s4 dpv => ?_
    have len := DpAll.len p3
    rw [List.length_map, List.length_range] at len
    have hs : ∀ {L : HO}, Same (hid D H) (hid D (upd H4 D L)) := fun b o e => by
      unfold hid at e ⊢
      by_cases c : b = D
      · rw [if_pos c] at e; cases e
      · rw [if_neg c] at e ⊢; rw [upd_ne c]; exact s4 b o e
    have hs2 : ∀ {L : HO}, Same (hid D H4) (hid D (upd H4 D L)) := fun b o e => by
      unfold hid at e ⊢
      by_cases c : b = D
      · rw [if_pos c] at e; cases e
      · rw [if_neg c] at e ⊢; rw [upd_ne c]; exact e
    refine ⟨acc, s4 _ _ p2, by omega, fun b o e => ?_, acc ++ [v], upd_same, ?_⟩
    · rw [upd_ne (ne_of_none e hD)]
      exact s4 _ _ (p1 b o e)
    · rw [List.range_succ, List.map_append]
      exact DpAll.app (Dp.sm hs2 dpv) (DpAll.sm hs p3)
  · obtain ⟨p1, acc, p2, p3⟩ := p
    exact hd H acc p1 p2 (DpAll.sm (hid_of D H) p3)
theorem sh3 : SeqAt.shaped (.list [PyData.list [.int 0], .list [.int 0], .list [.int 1]]) = true := by simp [SeqAt.shaped, PyData.canLay0, PyData.canLayAll0, PyData.depth, PyData.depthAll]
theorem sh32 : SeqAt.shaped (.list [PyData.list [.int 2], .list [.int 2], .list [.int 2]]) = true := by simp [SeqAt.shaped, PyData.canLay0, PyData.canLayAll0, PyData.depth, PyData.depthAll]
theorem due_adr {H : Hp} {d : Int} {v : V} (h : Odd H 0 4095 v) (e : d = 0 ∨ d = 1) : DueBad H d v 0 := ⟨fun _ => ⟨h, rfl⟩, fun z => by omega, fun z => by omega, fun z => by omega, fun z => by omega, fun z => by omega, fun z => by omega, by decide⟩
theorem due_low6 {H : Hp} {d : Int} {v : V} (h : NoBd H v (.int 4)) (e : d = 6 ∨ d = 7) : DueBad H d v 3 := ⟨fun z => by omega, fun z => by omega, fun z => by omega, fun _ => ⟨h, rfl⟩, fun z => by omega, fun z => by omega, fun z => by omega, by decide⟩
theorem due_high {H : Hp} {d : Int} {v : V} (h : NoBd H (.int 0) v) (e : d = 8 ∨ d = 9) : DueBad H d v 3 := ⟨fun z => by omega, fun z => by omega, fun z => by omega, fun z => by omega, fun _ => ⟨h, rfl⟩, fun z => by omega, fun z => by omega, by decide⟩
theorem due_both {H : Hp} {d : Int} {v : V} (h : ∃ p a b, v = .ref p ∧ H p = some (.tup [a, b]) ∧ NoBd H a b) (e : d = 10 ∨ d = 11) : DueBad H d v 3 := ⟨fun z => by omega, fun z => by omega, fun z => by omega, fun z => by omega, fun z => by omega, fun _ => ⟨h, rfl⟩, fun z => by omega, by decide⟩
theorem due_wrd {H : Hp} {v : V} (h : BadW H v) : DueBad H 2 v 1 := ⟨fun z => by omega, fun _ => ⟨h, rfl⟩, fun z => by omega, fun z => by omega, fun z => by omega, fun z => by omega, fun z => by omega, by decide⟩
theorem due_off {H : Hp} {d : Int} {v : V} (h : Odd H (-8) 15 v) (e : d = 3 ∨ d = 4 ∨ d = 5) : DueBad H d v 2 := ⟨fun z => by omega, fun z => by omega, fun _ => ⟨h, rfl⟩, fun z => by omega, fun z => by omega, fun z => by omega, fun z => by omega, by decide⟩
theorem due_rest0 {H : Hp} {v : V} (h : Odd H 0 4095 v) : DueBad H 12 v 0 := ⟨fun z => by omega, fun z => by omega, fun z => by omega, fun z => by omega, fun z => by omega, fun z => by omega, fun _ => .inl ⟨h, rfl⟩, by decide⟩
theorem due_rest1 {H : Hp} : DueBad H 12 (.int 5) 1 := ⟨fun z => by omega, fun z => by omega, fun z => by omega, fun z => by omega, fun z => by omega, fun z => by omega, fun _ => .inr ⟨rfl, rfl⟩, by decide⟩
theorem due_low {H : Hp} {v : V} (h : Odd H 0 4095 v) : NoBd H v (.int 4) := ⟨h.1, .int _, fun a b e1 e2 bd => by
  cases e2
  obtain ⟨b0, b1, b2⟩ := bd
  exact h.2 a e1 ⟨b0, by omega⟩⟩

theorem none_of {A B : Hp} {x : Addr} (s : Same A B) (n : B x = none) : A x = none := by
  cases e : A x with
  | none => rfl
  | some o => rw [s _ _ e] at n; cases n
theorem same_but {A B G : Hp} {p : Addr} (n : A p = none) (s : Same A B) (b : But p B G) : Same A G := fun q o e => b q o (ne_of_none e n) (s q o e)
theorem same_butP {A B G : Hp} {p L D : Addr} (n1 : A p = none) (n2 : A L = none) (n3 : A D = none) (s : Same A B) (b : ButP p L D B G) : Same A G := fun q o e => b q o (ne_of_none e n1) (ne_of_none e n2) (ne_of_none e n3) (s q o e)
/-! ### whole numbers chosen in a comprehension, from a list or the keys of a dict -/
theorem lc_sel {J : It} {n : Nat} {G : Hp → Prop} {Y : Nat → Hp → V → Hp → Prop} (w : Walk J n G Y) {g : TG} {tt : TT} {te : TE} {vs : List Nat} {σ : L2.St} {H1 : Hp} {D : Addr} {Qd : Hp → Prop}
    (zs : List Int) (keep : Int → Bool) (hn : n = zs.length) (hz : zs.length < 1000) (hY : ∀ i H x H', Y i H x H' → H' = H ∧ ∃ y, zs[i]? = some y ∧ x = .int y) (hD : H1 D = none) (hG : ∀ H, Same H1 H → G H)
    (hs : ∀ (y : Int) (H : Hp), y ∈ zs → Same H1 H → ∀ (k : VK) (m : Hp → Prop), (keep y = true → ∀ H4, Same H H4 → k (.int y) H4) → (keep y = false → ∀ H4, Same H H4 → m H4) →
      g (.int y) (wipe σ vs) H fun σ2 H2 => wipe σ2 vs = wipe σ vs ∧ tt σ2 H2 fun b H3 => if b = true then te σ2 H3 k else m H3)
    (hd : ∀ H, Same H1 H → H D = some (.lst ((zs.filter keep).map V.int)) → Qd H) :
    ∃ W : Nat → Nat → Hp → Prop, (∃ m, W 0 m (upd H1 D (.lst []))) ∧ ∀ i m H, W i m H →
      (J.stop i H ∧ Qd H) ∨ (J.go i H ∧ ∃ Nx : Hp → Prop, (∀ H', Nx H' → ∃ m', m' < m ∧ W (i + 1) m' H') ∧ ∀ x H', J.yld i H x H' → g x (wipe σ vs) H' fun σ2 H2 => wipe σ2 vs = wipe σ vs ∧ tt σ2 H2 fun b H3 =>
        if b = true then te σ2 H3 fun y H4 => ∃ acc, H4 D = some (.lst acc) ∧ acc.length < sizeLine ∧ Nx (upd H4 D (.lst (acc ++ [y]))) else Nx H3) := by
  subst hn
  refine lc_it w (fun i H => Same H1 H ∧ H D = some (.lst (((zs.take i).filter keep).map V.int))) ⟨same_new hD, upd_same⟩ (fun i H _ p => hG H p.1) (fun i x H H' hi p y => ?_) (fun H p => hd H p.1 (by have := p.2; rw [List.take_length] at this; exact this))
  obtain ⟨rfl, z, hz1, rfl⟩ := hY i H x H' y
  have tk : zs.take (i + 1) = zs.take i ++ [z] := by rw [List.take_add_one, hz1]; rfl
  refine hs z H' (List.mem_of_getElem? hz1) p.1 _ _ (fun e H4 s4 => ?_) (fun e H4 s4 => ?_)
  · refine ⟨_, s4 _ _ p.2, ?_, fun b o e' => by rw [upd_ne (ne_of_none e' hD)]; exact s4 _ _ (p.1 b o e'), ?_⟩
    · rw [List.length_map]
      have h1 := List.length_filter_le keep (zs.take i)
      rw [List.length_take] at h1
      exact szn (by omega)
    · rw [upd_same, tk, List.filter_append, List.map_append, show List.filter keep [z] = [z] from by rw [List.filter_cons, if_pos e]; rfl]
      rfl
  · refine ⟨p.1.trans s4, ?_⟩
    rw [tk, List.filter_append, show List.filter keep [z] = [] from by rw [List.filter_cons, if_neg (by rw [e]; decide)]; rfl, List.append_nil]
    exact s4 _ _ p.2
theorem yat_ints {zs : List Int} : ∀ i H x H', YAt (zs.map V.int) i H x H' → H' = H ∧ ∃ y, zs[i]? = some y ∧ x = .int y := by
  rintro i H x H' ⟨rfl, hx⟩
  rw [List.getElem?_map] at hx
  obtain ⟨y, hy, rfl⟩ := Option.map_eq_some_iff.mp hx
  exact ⟨rfl, y, hy, rfl⟩
theorem yat_keys {kvs : List (Key × V)} {ks : List Int} (hk : kvs.map (·.1) = ks.map Sum.inl) : ∀ (i : Nat) (H : Hp) (x : V) (H' : Hp), (H' = H ∧ ∃ k v, kvs[i]? = some (k, v) ∧ x = kV k) → H' = H ∧ ∃ y, ks[i]? = some y ∧ x = .int y := by
  rintro i H x H' ⟨rfl, k, v, hx, rfl⟩
  have h : (kvs.map (·.1))[i]? = some k := by rw [List.getElem?_map, hx]; rfl
  rw [hk, List.getElem?_map] at h
  obtain ⟨y, hy, rfl⟩ := Option.map_eq_some_iff.mp h
  exact ⟨rfl, y, hy, rfl⟩
theorem keys_len {kvs : List (Key × V)} {ks : List Int} (hk : kvs.map (·.1) = ks.map Sum.inl) : kvs.length = ks.length := by
  have e := congrArg List.length hk
  rw [List.length_map, List.length_map] at e; exact e
/-! ### a book cut -/
theorem mergeK_app : ∀ (more acc : List (Key × V)), ((acc ++ more).map (·.1)).Nodup → mergeK acc more = acc ++ more
  | [], acc, _ => by rw [List.append_nil]; rfl
  | kv :: more, acc, h => by
    have e : valV acc kv.1 = none := by
      cases e : valV acc kv.1 with
      | none => rfl
      | some u =>
        have a1 := valV_any kv.1 acc
        rw [e] at a1
        have a1 : (acc.any fun x => decide (x.1 = kv.1)) = true := a1
        obtain ⟨x, hx, hk⟩ := List.any_eq_true.mp a1
        rw [List.map_append, List.map_cons] at h
        exact absurd (of_decide_eq_true hk) ((List.nodup_append.mp h).2.2 _ (List.mem_map.mpr ⟨x, hx, rfl⟩) _ List.mem_cons_self)
    show mergeK (putK acc kv.1 kv.2) more = _
    rw [putK_new kv.2 e, mergeK_app more _ (by rw [List.append_assoc]; exact h), List.append_assoc]
    rfl
def inK (l h : Int) : Key → Bool
  | .inl n => decide (l ≤ n) && decide (n < h)
  | .inr _ => false
theorem valV_cut {l h : Int} {k : Key} : ∀ kvs : List (Key × V), valV (kvs.filter fun kv => !inK l h kv.1) k = if inK l h k = true then none else valV kvs k
  | [] => by simp [valV]
  | kv :: r => by
    have ih := valV_cut (l := l) (h := h) (k := k) r
    rw [List.filter_cons]
    by_cases c : inK l h kv.1 = true
    · rw [if_neg (by rw [c]; decide), ih]
      by_cases e : kv.1 = k
      · rw [← e, if_pos c, if_pos c]
      · have : valV (kv :: r) k = valV r k := by simp [valV, List.find?_cons, e]
        rw [this]
    · rw [if_pos (by simp [c])]
      by_cases e : kv.1 = k
      · rw [valV_pos e, ← e, if_neg c, valV_pos rfl]
      · have h1 : valV (kv :: r) k = valV r k := by simp [valV, List.find?_cons, e]
        have h2 : valV (kv :: r.filter fun kv => !inK l h kv.1) k = valV (r.filter fun kv => !inK l h kv.1) k := by simp [valV, List.find?_cons, e]
        rw [h1, h2, ih]
theorem Bk.cut {K : PySem.W.Frag} {H H' : Hp} {D Dn : Addr} {kvs : List (Key × V)} {f : Nat → Bool × Int} {l h : Int} (B : Bk K H D kvs f) (s : Same H H') (e : H' Dn = some (.dK (kvs.filter fun kv => !inK l h kv.1))) : Bk K H' Dn (kvs.filter fun kv => !inK l h kv.1) (clears f l h) := by
  refine ⟨e, fun kv hk => B.keys kv ((List.mem_filter.mp hk).1), ?_, fun i hi => ?_⟩
  · exact List.Nodup.sublist (List.Sublist.map _ List.filter_sublist) B.nd
  · rw [valV_cut]
    unfold clears
    by_cases c : l ≤ (i : Int) ∧ (i : Int) < h
    · rw [if_pos c, if_pos (show inK l h (.inl (i : Int)) = true from by simp [inK, c])]
      exact .inl ⟨rfl, rfl⟩
    · have c2 : ¬ inK l h (.inl (i : Int)) = true := by simp only [inK, Bool.and_eq_true, decide_eq_true_eq]; exact c
      rw [if_neg c, if_neg c2]
      exact (B.val i hi).imp id fun ⟨q, e, w⟩ => ⟨q, e, w.same s⟩
theorem range_due {K : PySem.W.Frag} {H : Hp} {D : Addr} {kvs : List (Key × V)} {f : Nat → Bool × Int} {ks ys : List Int} {l h : Int} (B : Bk K H D kvs f) (hk : kvs.map (·.1) = ks.map Sum.inl) (hp : ys.Perm ks) (hs : ys.Pairwise (· ≤ ·)) (bd : Bd l h) :
    ((List.range (h - l).toNat).filter fun (i : Nat) => (f (l.toNat + i)).1).map (fun (i : Nat) => l + (i : Int)) = ys.filter fun y => decide (l ≤ y) && decide (y < h) && (f y.toNat).1 := by
  obtain ⟨b0, b1, b2⟩ := bd
  have nk : ks.Nodup := by
    have n := B.nd
    rw [hk] at n
    exact (List.pairwise_map.mp n).imp fun h e => h (by rw [e])
  have ny : ys.Nodup := hp.nodup_iff.mpr nk
  have m := marked_eq B hk hp hs
  refine inc_eq ?_ ((lt_of_nd hs ny).filter _) fun x => ?_
  · rw [List.pairwise_map]
    exact (List.pairwise_lt_range.filter _).imp fun h => by omega
  · have mx : x ∈ ((List.range 4096).filter fun (i : Nat) => (f i).1).map (fun (i : Nat) => (i : Int)) ↔ x ∈ ys.filter fun y => (f y.toNat).1 := by rw [m]
    rw [List.mem_map, List.mem_filter] at mx
    rw [List.mem_map, List.mem_filter]
    constructor
    · rintro ⟨i, h1, rfl⟩
      obtain ⟨h2, h3⟩ := List.mem_filter.mp h1
      have h2 := List.mem_range.mp h2
      have e : l + (i : Int) = ((l.toNat + i : Nat) : Int) := by omega
      obtain ⟨m1, m2⟩ := mx.mp ⟨l.toNat + i, List.mem_filter.mpr ⟨List.mem_range.mpr (by omega), h3⟩, e.symm⟩
      refine ⟨m1, ?_⟩
      simp only [Bool.and_eq_true, decide_eq_true_eq]
      exact ⟨⟨by omega, by omega⟩, m2⟩
    · rintro ⟨h1, h2⟩
      simp only [Bool.and_eq_true, decide_eq_true_eq] at h2
      obtain ⟨⟨h3, h4⟩, h5⟩ := h2
      obtain ⟨i, h6, h7⟩ := mx.mpr ⟨h1, h5⟩
      obtain ⟨h8, h9⟩ := List.mem_filter.mp h6
      refine ⟨i - l.toNat, List.mem_filter.mpr ⟨List.mem_range.mpr (by omega), ?_⟩, by omega⟩
      rw [show l.toNat + (i - l.toNat) = i from by omega]
      exact h9
theorem clears_same {f : Nat → Bool × Int} {l h : Int} {i : Nat} : clears f l h i = f i ↔ ¬ ((l ≤ (i : Int) ∧ (i : Int) < h) ∧ f i ≠ (false, 0)) := by
  unfold clears
  by_cases c : l ≤ (i : Int) ∧ (i : Int) < h
  · rw [if_pos c]
    constructor
    · intro e z; exact z.2 e.symm
    · intro z; exact Classical.not_not.mp fun e => z ⟨c, fun y => e y.symm⟩
  · rw [if_neg c]
    exact ⟨fun _ z => c z.1, fun _ => rfl⟩
/-- what is gone: keys in the bounds whose words are not the plain one of 0 -/
theorem gone_iff {K : PySem.W.Frag} {H : Hp} {D : Addr} {kvs : List (Key × V)} {f : Nat → Bool × Int} {ks : List Int} {l h : Int} (B : Bk K H D kvs f) (hk : kvs.map (·.1) = ks.map Sum.inl) :
    (∀ i, i < 4096 → clears f l h i = f i) ↔ (ks.filter fun y => decide (l ≤ y) && decide (y < h) && decide (f y.toNat ≠ (false, 0))) = [] := by
  rw [List.filter_eq_nil_iff]
  constructor
  · intro a y hy c
    simp only [Bool.and_eq_true, decide_eq_true_eq] at c
    obtain ⟨⟨c1, c2⟩, c3⟩ := c
    obtain ⟨i, hi, rfl⟩ := key_in B hk hy
    exact clears_same.mp (a i hi) ⟨⟨c1, c2⟩, c3⟩
  · intro a i hi
    refine clears_same.mpr fun ⟨⟨c1, c2⟩, c3⟩ => ?_
    rcases B.val i hi with ⟨_, e⟩ | ⟨q, e, _⟩
    · exact c3 e
    · have a1 := valV_any (Sum.inl (i : Int) : Key) kvs
      rw [e] at a1
      have a1 : (kvs.any fun kv => decide (kv.1 = Sum.inl (i : Int))) = true := a1
      obtain ⟨kv, h3, h4⟩ := List.any_eq_true.mp a1
      have m : (Sum.inl (i : Int) : Key) ∈ kvs.map (·.1) := List.mem_map.mpr ⟨kv, h3, of_decide_eq_true h4⟩
      rw [hk] at m
      obtain ⟨y, hy, e2⟩ := List.mem_map.mp m
      have e2 : y = (i : Int) := Sum.inl.inj e2
      subst e2
      refine a _ hy ?_
      simp only [Bool.and_eq_true, decide_eq_true_eq]
      exact ⟨⟨c1, c2⟩, c3⟩
theorem valV_mem {k : Key} {v : V} : ∀ {kvs : List (Key × V)}, (kvs.map (·.1)).Nodup → (k, v) ∈ kvs → valV kvs k = some v
  | kv :: r, nd, m => by
    rw [List.map_cons, List.nodup_cons] at nd
    rcases List.mem_cons.mp m with e | e
    · subst e; exact valV_pos rfl
    · have ne : ¬ kv.1 = k := fun z => nd.1 (List.mem_map.mpr ⟨_, e, z.symm⟩)
      have h1 : valV (kv :: r) k = valV r k := by simp [valV, List.find?_cons, ne]
      rw [h1]; exact valV_mem nd.2 e
theorem Paired.imp' {α β : Type} {F G : α → β → Prop} (h : ∀ a b, F a b → G a b) : ∀ {l : List α} {m : List β}, Paired F l m → Paired G l m
  | _, _, .nil => .nil
  | _, _, .cons x y => .cons (h _ _ x) (Paired.imp' h y)
theorem Paired.len' {α β : Type} {F : α → β → Prop} : ∀ {l : List α} {m : List β}, Paired F l m → l.length = m.length
  | _, _, .nil => rfl
  | _, _, .cons _ y => congrArg (· + 1) (Paired.len' y)
/-- a locked dict read, and let go -/
theorem same_unlock {H F : Hp} {D : Addr} {od : Obj} {u : HO} (e : H D = some u) (s : Same (upd H D (.frz od u)) F) : Same H (upd F D u) := fun b o h => by
  by_cases c : b = D
  · subst c; rw [upd_same, ← e]; exact h
  · rw [upd_ne c]; exact s _ _ (by rw [upd_ne c]; exact h)
theorem Bk.butD {K : PySem.W.Frag} {H H' : Hp} {D p : Addr} {kvs xs : List (Key × V)} {f : Nat → Bool × Int} (B : Bk K H D kvs f) (e : H p = some (.dK xs)) (n : D ≠ p) (s : But p H H') : Bk K H' D kvs f :=
  ⟨s _ _ n B.at', B.keys, B.nd, fun i hi => (B.val i hi).imp id fun ⟨q, e', w⟩ => ⟨q, e', w.but s e ndk.1⟩⟩
theorem dw_shp {m : Bool} {b : Int} : SeqAt.shaped (dw m b) = true := by simp [dw, SeqAt.shaped, PyData.canLay0, PyData.canLayAll0, PyData.depth, PyData.depthAll]
/-- the word by an address, or the plain one of 0 -/
theorem Bk.own {K : PySem.W.Frag} {H : Hp} {D qn : Addr} {kvs : List (Key × V)} {f : Nat → Bool × Int} {n : Nat} (B : Bk K H D kvs f) (hn : n < 4096) (hqn : H qn = none) : ∃ qo, (valV kvs (.inl (n : Int))).getD (.ref qn) = .ref qo ∧ Wk K (upd H qn (.tup [.bl false, .int 0])) qo (f n).1 (f n).2 := by
  rcases B.val n hn with ⟨e, ef⟩ | ⟨q, e, wk⟩
  · exact ⟨qn, by rw [e]; rfl, by rw [ef]; exact ⟨.inl (.inl upd_same), by unfold W45; decide, fun z => by cases z⟩⟩
  · exact ⟨q, by rw [e]; rfl, wk.same (same_new hqn)⟩
theorem eqv_dw {m1 m2 : Bool} {b1 b2 : Int} : PyData.eqv (dw m1 b1) (dw m2 b2) = decide ((m1, b1) = (m2, b2)) := by
  rw [Bool.eq_iff_iff, decide_eq_true_eq, show dw m1 b1 = .tuple [.bool m1, .int b1] from rfl, show dw m2 b2 = .tuple [.bool m2, .int b2] from rfl, tw_eqv, Prod.mk.injEq]
theorem filt_no {zs : List Int} : zs.filter (fun _ => false) = [] := by rw [List.filter_eq_nil_iff.mpr (fun a _ => by decide)]
theorem but_unlock {H F : Hp} {D : Addr} {od : Obj} {u : HO} : But D H (upd H D (.frz od u)) := but_self

def topS (i : Nat) : Stmt := PySem.Challenge.pw_sealedreach_k20_cells_laid_and_cleared.main.body.getD i (.Pass ⟨0, 0, 0, 0⟩)
abbrev s_is_whole : Stmt := topS 8
abbrev s_are_bounds : Stmt := topS 13
abbrev s_look_at_bounds : Stmt := topS 14
abbrev s__has_some : Stmt := topS 35
abbrev s__lead_one_way : Stmt := topS 34
abbrev s_field : Stmt := topS 29
abbrev s_rights_in : Stmt := topS 31
abbrev s__tell : Stmt := topS 32
abbrev s__may_be_marked : Stmt := topS 33
abbrev s_is_word : Stmt := topS 26
abbrev s_is_lawful : Stmt := topS 27
abbrev s_bounds_in : Stmt := topS 30
abbrev s_fields_of : Stmt := topS 28
abbrev s_is_sealed : Stmt := topS 37
abbrev s_without_mark : Stmt := topS 38
abbrev s__look_at_address : Stmt := topS 45
abbrev s__reached : Stmt := topS 46
abbrev s__look_at_stored : Stmt := topS 47
abbrev s_Cells___init__ : Stmt := inClass (topS 44) 0
abbrev s_Cells_store : Stmt := inClass (topS 44) 2
abbrev s_Cells_poke : Stmt := inClass (topS 44) 3
abbrev s_Cells_lay : Stmt := inClass (topS 44) 4
abbrev s_Cells_cell : Stmt := inClass (topS 44) 6
abbrev s_Cells_marked : Stmt := inClass (topS 44) 7
abbrev s__law_take : Stmt := topS 50
abbrev s__law_pool : Stmt := topS 49
abbrev s__law_least : Stmt := topS 51
abbrev s__law_made : Stmt := topS 53
abbrev s__law_bounds : Stmt := topS 54
abbrev s__law_rights : Stmt := topS 55
abbrev s__law_word : Stmt := topS 56
abbrev s_Cells_clear : Stmt := inClass (topS 44) 5
abbrev s_Cells_twin : Stmt := inClass (topS 44) 8
abbrev s_Cells___eq__ : Stmt := inClass (topS 44) 9
abbrev s_Cells_marked__v2 : Stmt := inClass (topS 44) 7
abbrev s__look_at_address__v1 : Stmt := topS 45
abbrev s__reached__v1 : Stmt := topS 46
abbrev s_look_at_bounds__v1 : Stmt := topS 14
abbrev s_Cells_cell__v1 : Stmt := inClass (topS 44) 6
abbrev s_Cells_lay__v1 : Stmt := inClass (topS 44) 4
abbrev s_Cells_clear__v1 : Stmt := inClass (topS 44) 5
abbrev s_Cells_marked__v1 : Stmt := inClass (topS 44) 7
abbrev s_Cells_load__v1 : Stmt := inClass (topS 44) 1
abbrev s_Cells_store__v1 : Stmt := inClass (topS 44) 2
abbrev s_Cells_poke__v1 : Stmt := inClass (topS 44) 3
abbrev s__law_said : Stmt := topS 57
abbrev s__law_laid : Stmt := topS 59
abbrev s__law_same : Stmt := topS 60
abbrev s__law_emptied_so : Stmt := topS 61
abbrev s__law_odd_so : Stmt := topS 58
abbrev s_law : Stmt := topS 62
theorem sc_is_whole : FnScope ["thing", "least", "most"] ["thing", "least", "most"] (defScope s_is_whole) := ⟨rfl, rfl, rfl, by decide +kernel, rfl, by decide +kernel, by decide +kernel⟩
theorem sc_are_bounds : FnScope ["low", "high"] ["low", "high"] (defScope s_are_bounds) := ⟨rfl, rfl, rfl, by decide +kernel, rfl, by decide +kernel, by decide +kernel⟩
theorem sc_look_at_bounds : FnScope ["low", "high"] ["low", "high"] (defScope s_look_at_bounds) := ⟨rfl, rfl, rfl, by decide +kernel, rfl, by decide +kernel, by decide +kernel⟩
theorem sc__has_some : FnScope ["rights", "group", "sign"] ["rights", "group"] (defScope s__has_some) := ⟨rfl, rfl, rfl, by decide +kernel, rfl, by decide +kernel, by decide +kernel⟩
theorem sc__lead_one_way : FnScope ["rights", "group"] ["rights"] (defScope s__lead_one_way) := ⟨rfl, rfl, rfl, by decide +kernel, rfl, by decide +kernel, by decide +kernel⟩
theorem sc_field : FnScope ["bits", "place", "lowest", "many"] ["bits", "place"] (defScope s_field) := ⟨rfl, rfl, rfl, by decide +kernel, rfl, by decide +kernel, by decide +kernel⟩
theorem sc_rights_in : FnScope ["bits", "number", "k", "sign"] ["bits"] (defScope s_rights_in) := ⟨rfl, rfl, rfl, by decide +kernel, rfl, by decide +kernel, by decide +kernel⟩
theorem sc__tell : FnScope ["bits", "step", "count"] ["bits"] (defScope s__tell) := ⟨rfl, rfl, rfl, by decide +kernel, rfl, by decide +kernel, by decide +kernel⟩
theorem sc__may_be_marked : FnScope ["bits"] ["bits"] (defScope s__may_be_marked) := ⟨rfl, rfl, rfl, by decide +kernel, rfl, by decide +kernel, by decide +kernel⟩
theorem sc_is_word : FnScope ["thing", "marked", "bits"] ["thing"] (defScope s_is_word) := ⟨rfl, rfl, rfl, by decide +kernel, rfl, by decide +kernel, by decide +kernel⟩
theorem sc_is_lawful : FnScope ["thing", "marked", "bits"] ["thing"] (defScope s_is_lawful) := ⟨rfl, rfl, rfl, by decide +kernel, rfl, by decide +kernel, by decide +kernel⟩
theorem sc_bounds_in : FnScope ["bits", "step", "first"] ["bits"] (defScope s_bounds_in) := ⟨rfl, rfl, rfl, by decide +kernel, rfl, by decide +kernel, by decide +kernel⟩
theorem sc_fields_of : FnScope ["word", "bits", "low", "high"] ["word"] (defScope s_fields_of) := ⟨rfl, rfl, rfl, by decide +kernel, rfl, by decide +kernel, by decide +kernel⟩
theorem sc_is_sealed : FnScope ["bits"] ["bits"] (defScope s_is_sealed) := ⟨rfl, rfl, rfl, by decide +kernel, rfl, by decide +kernel, by decide +kernel⟩
theorem sc_without_mark : FnScope ["word"] ["word"] (defScope s_without_mark) := ⟨rfl, rfl, rfl, by decide +kernel, rfl, by decide +kernel, by decide +kernel⟩
theorem sc__look_at_address : FnScope ["thing"] ["thing"] (defScope s__look_at_address) := ⟨rfl, rfl, rfl, by decide +kernel, rfl, by decide +kernel, by decide +kernel⟩
theorem sc__reached : FnScope ["word", "offset", "right", "low", "high", "at", "rights", "_"] ["word", "offset", "right"] (defScope s__reached) := ⟨rfl, rfl, rfl, by decide +kernel, rfl, by decide +kernel, by decide +kernel⟩
theorem sc__look_at_stored : FnScope ["rights", "stored_rights"] ["rights", "stored_rights"] (defScope s__look_at_stored) := ⟨rfl, rfl, rfl, by decide +kernel, rfl, by decide +kernel, by decide +kernel⟩
theorem sc_Cells___init__ : FnScope ["self"] ["self"] (defScope s_Cells___init__) := ⟨rfl, rfl, rfl, by decide +kernel, rfl, by decide +kernel, by decide +kernel⟩
theorem sc_Cells_store : FnScope ["self", "word", "offset", "what", "address"] ["self", "word", "offset", "what"] (defScope s_Cells_store) := ⟨rfl, rfl, rfl, by decide +kernel, rfl, by decide +kernel, by decide +kernel⟩
theorem sc_Cells_poke : FnScope ["self", "word", "offset", "number", "address", "bits"] ["self", "word", "offset", "number"] (defScope s_Cells_poke) := ⟨rfl, rfl, rfl, by decide +kernel, rfl, by decide +kernel, by decide +kernel⟩
theorem sc_Cells_lay : FnScope ["self", "address", "word"] ["self", "address", "word"] (defScope s_Cells_lay) := ⟨rfl, rfl, rfl, by decide +kernel, rfl, by decide +kernel, by decide +kernel⟩
theorem sc_Cells_cell : FnScope ["self", "address"] ["self", "address"] (defScope s_Cells_cell) := ⟨rfl, rfl, rfl, by decide +kernel, rfl, by decide +kernel, by decide +kernel⟩
theorem sc_Cells_marked : FnScope ["self", "low", "high", "address"] ["self", "low", "high"] (defScope s_Cells_marked) := ⟨rfl, rfl, rfl, by decide +kernel, rfl, by decide +kernel, by decide +kernel⟩
theorem sc__law_take : FnScope ["_law_pool_here", "_law_many", "_law_found"] ["_law_pool_here", "_law_many"] (defScope s__law_take) := ⟨rfl, rfl, rfl, by decide +kernel, rfl, by decide +kernel, by decide +kernel⟩
theorem sc__law_pool : FnScope ["_law_script", "_law_k", "_law_cell", "_law_size", "_law_mixed"] ["_law_script", "_law_k"] (defScope s__law_pool) := ⟨rfl, rfl, rfl, by decide +kernel, rfl, by decide +kernel, by decide +kernel⟩
theorem sc__law_least : FnScope ["_law_low", "_law_high", "_law_step"] ["_law_low", "_law_high"] (defScope s__law_least) := ⟨rfl, rfl, rfl, by decide +kernel, rfl, by decide +kernel, by decide +kernel⟩
theorem sc__law_made : FnScope ["_law_low", "_law_high", "_law_at", "_law_rights_here", "_law_kind", "_law_step", "_law_bits", "_law_place", "_law_sign"] ["_law_low", "_law_high", "_law_at", "_law_rights_here", "_law_kind"] (defScope s__law_made) := ⟨rfl, rfl, rfl, by decide +kernel, rfl, by decide +kernel, by decide +kernel⟩
theorem sc__law_bounds : FnScope ["_law_pool_here", "_law_low", "_law_many", "_law_own_low", "_law_own_high", "_law_step"] ["_law_pool_here"] (defScope s__law_bounds) := ⟨rfl, rfl, rfl, by decide +kernel, rfl, by decide +kernel, by decide +kernel⟩
theorem sc__law_rights : FnScope ["_law_pool_here", "_law_way", "_law_sign"] ["_law_pool_here"] (defScope s__law_rights) := ⟨rfl, rfl, rfl, by decide +kernel, rfl, by decide +kernel, by decide +kernel⟩
theorem sc__law_word : FnScope ["_law_pool_here", "_law_low", "_law_high", "_law_rights_here", "_law_at", "_law_kind", "_law_word_here"] ["_law_pool_here"] (defScope s__law_word) := ⟨rfl, rfl, rfl, by decide +kernel, rfl, by decide +kernel, by decide +kernel⟩
theorem sc_Cells_clear : FnScope ["self", "low", "high"] ["self", "low", "high"] (defScope s_Cells_clear) := ⟨rfl, rfl, rfl, by decide +kernel, rfl, by decide +kernel, by decide +kernel⟩
theorem sc_Cells_twin : FnScope ["self", "other"] ["self"] (defScope s_Cells_twin) := ⟨rfl, rfl, rfl, by decide +kernel, rfl, by decide +kernel, by decide +kernel⟩
theorem sc_Cells___eq__ : FnScope ["self", "other"] ["self", "other"] (defScope s_Cells___eq__) := ⟨rfl, rfl, rfl, by decide +kernel, rfl, by decide +kernel, by decide +kernel⟩
theorem sc_Cells_marked__v2 : FnScope ["self", "low", "high", "address"] ["self", "low", "high"] (defScope s_Cells_marked__v2) := ⟨rfl, rfl, rfl, by decide +kernel, rfl, by decide +kernel, by decide +kernel⟩
theorem sc__look_at_address__v1 : FnScope ["thing"] ["thing"] (defScope s__look_at_address__v1) := ⟨rfl, rfl, rfl, by decide +kernel, rfl, by decide +kernel, by decide +kernel⟩
theorem sc__reached__v1 : FnScope ["word", "offset", "right", "low", "high", "at", "rights", "_"] ["word", "offset", "right"] (defScope s__reached__v1) := ⟨rfl, rfl, rfl, by decide +kernel, rfl, by decide +kernel, by decide +kernel⟩
theorem sc_look_at_bounds__v1 : FnScope ["low", "high"] ["low", "high"] (defScope s_look_at_bounds__v1) := ⟨rfl, rfl, rfl, by decide +kernel, rfl, by decide +kernel, by decide +kernel⟩
theorem sc_Cells_cell__v1 : FnScope ["self", "address"] ["self", "address"] (defScope s_Cells_cell__v1) := ⟨rfl, rfl, rfl, by decide +kernel, rfl, by decide +kernel, by decide +kernel⟩
theorem sc_Cells_lay__v1 : FnScope ["self", "address", "word"] ["self", "address", "word"] (defScope s_Cells_lay__v1) := ⟨rfl, rfl, rfl, by decide +kernel, rfl, by decide +kernel, by decide +kernel⟩
theorem sc_Cells_clear__v1 : FnScope ["self", "low", "high"] ["self", "low", "high"] (defScope s_Cells_clear__v1) := ⟨rfl, rfl, rfl, by decide +kernel, rfl, by decide +kernel, by decide +kernel⟩
theorem sc_Cells_marked__v1 : FnScope ["self", "low", "high", "address"] ["self", "low", "high"] (defScope s_Cells_marked__v1) := ⟨rfl, rfl, rfl, by decide +kernel, rfl, by decide +kernel, by decide +kernel⟩
theorem sc_Cells_load__v1 : FnScope ["self", "word", "offset", "there"] ["self", "word", "offset"] (defScope s_Cells_load__v1) := ⟨rfl, rfl, rfl, by decide +kernel, rfl, by decide +kernel, by decide +kernel⟩
theorem sc_Cells_store__v1 : FnScope ["self", "word", "offset", "what", "address"] ["self", "word", "offset", "what"] (defScope s_Cells_store__v1) := ⟨rfl, rfl, rfl, by decide +kernel, rfl, by decide +kernel, by decide +kernel⟩
theorem sc_Cells_poke__v1 : FnScope ["self", "word", "offset", "number", "address", "bits"] ["self", "word", "offset", "number"] (defScope s_Cells_poke__v1) := ⟨rfl, rfl, rfl, by decide +kernel, rfl, by decide +kernel, by decide +kernel⟩
theorem sc__law_said : FnScope ["_law_cells", "_law_door", "_law_thing", "_law_word_here", "_law_kept", "e", "_law_kinds", "_law_at"] ["_law_cells", "_law_door", "_law_thing", "_law_word_here"] (defScope s__law_said) := ⟨rfl, rfl, rfl, by decide +kernel, rfl, by decide +kernel, by decide +kernel⟩
theorem sc__law_laid : FnScope ["_law_pool_here", "_law_cells", "_law_book", "_law_turn", "_law_address"] ["_law_pool_here", "_law_cells", "_law_book"] (defScope s__law_laid) := ⟨rfl, rfl, rfl, by decide +kernel, rfl, by decide +kernel, by decide +kernel⟩
theorem sc__law_same : FnScope ["_law_cells", "_law_book", "_law_address"] ["_law_cells", "_law_book"] (defScope s__law_same) := ⟨rfl, rfl, rfl, by decide +kernel, rfl, by decide +kernel, by decide +kernel⟩
theorem sc__law_emptied_so : FnScope ["_law_word_here", "_law_cells", "_law_by"] ["_law_word_here"] (defScope s__law_emptied_so) := ⟨rfl, rfl, rfl, by decide +kernel, rfl, by decide +kernel, by decide +kernel⟩
theorem sc__law_odd_so : FnScope ["_law_cells", "_law_word_here", "_law_address", "_law_kept", "_law_thing", "_law_bad", "_law_door"] ["_law_cells", "_law_word_here"] (defScope s__law_odd_so) := ⟨rfl, rfl, rfl, by decide +kernel, rfl, by decide +kernel, by decide +kernel⟩
theorem sc_law : FnScope ["_law_script", "_law_k", "_law_pool_here", "_law_cells", "_law_book", "_law_other", "_law_low", "_law_high", "_law_kept", "_law_address", "_law_due", "_law_held", "_law_gone"] ["_law_script"] (defScope s_law) := ⟨rfl, rfl, rfl, by decide +kernel, rfl, by decide +kernel, by decide +kernel⟩
abbrev si_Fault : Stmt := inClass (topS 6) 0
theorem sci_Fault : FnScope ["self", "word"] ["self", "word"] (defScope si_Fault) := ⟨rfl, rfl, rfl, by decide +kernel, rfl, by decide +kernel, by decide +kernel⟩
abbrev si_NoAddress : Stmt := inClass (topS 4) 0
theorem sci_NoAddress : FnScope ["self", "text"] ["self", "text"] (defScope si_NoAddress) := ⟨rfl, rfl, rfl, by decide +kernel, rfl, by decide +kernel, by decide +kernel⟩
abbrev si_NoBounds : Stmt := inClass (topS 2) 0
theorem sci_NoBounds : FnScope ["self", "text"] ["self", "text"] (defScope si_NoBounds) := ⟨rfl, rfl, rfl, by decide +kernel, rfl, by decide +kernel, by decide +kernel⟩
abbrev si_NoOffset : Stmt := inClass (topS 3) 0
theorem sci_NoOffset : FnScope ["self", "text"] ["self", "text"] (defScope si_NoOffset) := ⟨rfl, rfl, rfl, by decide +kernel, rfl, by decide +kernel, by decide +kernel⟩
abbrev si_NoWord : Stmt := inClass (topS 5) 0
theorem sci_NoWord : FnScope ["self", "text"] ["self", "text"] (defScope si_NoWord) := ⟨rfl, rfl, rfl, by decide +kernel, rfl, by decide +kernel, by decide +kernel⟩
structure Txt (K : PySem.W.Frag) (w : World) (mg : Str → Option Value) : Prop where
  z_abs : mg "abs" = none
  z_any : mg "any" = none
  z_bool : mg "bool" = none
  z_dict : mg "dict" = none
  z_enumerate : mg "enumerate" = none
  z_int : mg "int" = none
  z_isinstance : mg "isinstance" = none
  z_len : mg "len" = none
  z_list : mg "list" = none
  z_max : mg "max" = none
  z_min : mg "min" = none
  z_range : mg "range" = none
  z_repr : mg "repr" = none
  z_sorted : mg "sorted" = none
  z_sum : mg "sum" = none
  z_tuple : mg "tuple" = none
  c_AT : ∃ p, mg "AT" = some (.ref p) ∧ ∀ H, SqT K H p [.int 0, .int 12]
  c_CELLS : ∃ t, mg "CELLS" = some (.int 4096 t)
  c_COUNT_LESS_ONE : ∃ p, mg "COUNT_LESS_ONE" = some (.ref p) ∧ ∀ H, SqT K H p [.int 24, .int 4]
  c_EMPTY : ∃ p, mg "EMPTY" = some (.ref p) ∧ ∀ H, SqT K H p [.bl false, .int 0]
  c_FIRST : ∃ p, mg "FIRST" = some (.ref p) ∧ ∀ H, SqT K H p [.int 12, .int 12]
  c_GROUPS : ∃ p, mg "GROUPS" = some (.ref p) ∧ ∀ H, SqT K H p [.str (Str.ofString "rwlsn"), .str (Str.ofString "x"), .str (Str.ofString "co")]
  c_KIND : ∃ p, mg "KIND" = some (.ref p) ∧ ∀ H, SqT K H p [.int 41, .int 4]
  c_LEAST_COUNT : ∃ t, mg "LEAST_COUNT" = some (.int 9 t)
  c_LEAST_OFFSET : ∃ t, mg "LEAST_OFFSET" = some (.int (-8) t)
  c_NOT_SEALED : ∃ t, mg "NOT_SEALED" = some (.int 0 t)
  c_POKED : ∃ t, mg "POKED" = some (.int 268435456 t)
  c_RIGHTS : ∃ t, mg "RIGHTS" = some (.str (Str.ofString "rwlsnfxco") t)
  c_RIGHTS_BITS : ∃ p, mg "RIGHTS_BITS" = some (.ref p) ∧ ∀ H, SqT K H p [.int 32, .int 9]
  c_STEP : ∃ p, mg "STEP" = some (.ref p) ∧ ∀ H, SqT K H p [.int 28, .int 4]
  c_TOP_OFFSET : ∃ t, mg "TOP_OFFSET" = some (.int 15 t)
  c_TOP_STEP : ∃ t, mg "TOP_STEP" = some (.int 8 t)
  c_WORTHS : ∃ t, mg "WORTHS" = some (.int 35184372088832 t)
  k_Cells : ∃ C, mg "Cells" = some (.ref C) ∧ PySem.W.nsIn K mainGlobals "Cells" = some (some (.ref C))
  k_Fault : ∃ C, mg "Fault" = some (.ref C) ∧ PySem.W.nsIn K mainGlobals "Fault" = some (some (.ref C))
  k_NoAddress : ∃ C, mg "NoAddress" = some (.ref C) ∧ PySem.W.nsIn K mainGlobals "NoAddress" = some (some (.ref C))
  k_NoBounds : ∃ C, mg "NoBounds" = some (.ref C) ∧ PySem.W.nsIn K mainGlobals "NoBounds" = some (some (.ref C))
  k_NoOffset : ∃ C, mg "NoOffset" = some (.ref C) ∧ PySem.W.nsIn K mainGlobals "NoOffset" = some (some (.ref C))
  k_NoWord : ∃ C, mg "NoWord" = some (.ref C) ∧ PySem.W.nsIn K mainGlobals "NoWord" = some (some (.ref C))
  k_ReachError : ∃ C, mg "ReachError" = some (.ref C) ∧ PySem.W.nsIn K mainGlobals "ReachError" = some (some (.ref C))
  x_NoAddress_ReachError : ∀ C D, PySem.W.nsIn K mainGlobals "NoAddress" = some (some (.ref C)) → PySem.W.nsIn K mainGlobals "ReachError" = some (some (.ref D)) → PySem.W.exmOne K (.ref C) (.ref D) = some true
  x_NoWord_ReachError : ∀ C D, PySem.W.nsIn K mainGlobals "NoWord" = some (some (.ref C)) → PySem.W.nsIn K mainGlobals "ReachError" = some (some (.ref D)) → PySem.W.exmOne K (.ref C) (.ref D) = some true
  x_NoOffset_ReachError : ∀ C D, PySem.W.nsIn K mainGlobals "NoOffset" = some (some (.ref C)) → PySem.W.nsIn K mainGlobals "ReachError" = some (some (.ref D)) → PySem.W.exmOne K (.ref C) (.ref D) = some true
  x_NoBounds_ReachError : ∀ C D, PySem.W.nsIn K mainGlobals "NoBounds" = some (some (.ref C)) → PySem.W.nsIn K mainGlobals "ReachError" = some (some (.ref D)) → PySem.W.exmOne K (.ref C) (.ref D) = some true
  e_NoAddress : ∀ C, PySem.W.nsIn K mainGlobals "NoAddress" = some (some (.ref C)) → ErrC K C
  e_NoWord : ∀ C, PySem.W.nsIn K mainGlobals "NoWord" = some (some (.ref C)) → ErrC K C
  e_NoOffset : ∀ C, PySem.W.nsIn K mainGlobals "NoOffset" = some (some (.ref C)) → ErrC K C
  e_NoBounds : ∀ C, PySem.W.nsIn K mainGlobals "NoBounds" = some (some (.ref C)) → ErrC K C
  i_NoAddress_NoAddress : ∀ C D, PySem.W.nsIn K mainGlobals "NoAddress" = some (some (.ref C)) → PySem.W.nsIn K mainGlobals "NoAddress" = some (some (.ref D)) → PySem.W.kitOne K (.ref C) (.ref D) = some true
  i_NoAddress_NoWord : ∀ C D, PySem.W.nsIn K mainGlobals "NoAddress" = some (some (.ref C)) → PySem.W.nsIn K mainGlobals "NoWord" = some (some (.ref D)) → PySem.W.kitOne K (.ref C) (.ref D) = some false
  i_NoAddress_NoOffset : ∀ C D, PySem.W.nsIn K mainGlobals "NoAddress" = some (some (.ref C)) → PySem.W.nsIn K mainGlobals "NoOffset" = some (some (.ref D)) → PySem.W.kitOne K (.ref C) (.ref D) = some false
  i_NoAddress_NoBounds : ∀ C D, PySem.W.nsIn K mainGlobals "NoAddress" = some (some (.ref C)) → PySem.W.nsIn K mainGlobals "NoBounds" = some (some (.ref D)) → PySem.W.kitOne K (.ref C) (.ref D) = some false
  i_NoAddress_Fault : ∀ C D, PySem.W.nsIn K mainGlobals "NoAddress" = some (some (.ref C)) → PySem.W.nsIn K mainGlobals "Fault" = some (some (.ref D)) → PySem.W.kitOne K (.ref C) (.ref D) = some false
  i_NoWord_NoAddress : ∀ C D, PySem.W.nsIn K mainGlobals "NoWord" = some (some (.ref C)) → PySem.W.nsIn K mainGlobals "NoAddress" = some (some (.ref D)) → PySem.W.kitOne K (.ref C) (.ref D) = some false
  i_NoWord_NoWord : ∀ C D, PySem.W.nsIn K mainGlobals "NoWord" = some (some (.ref C)) → PySem.W.nsIn K mainGlobals "NoWord" = some (some (.ref D)) → PySem.W.kitOne K (.ref C) (.ref D) = some true
  i_NoWord_NoOffset : ∀ C D, PySem.W.nsIn K mainGlobals "NoWord" = some (some (.ref C)) → PySem.W.nsIn K mainGlobals "NoOffset" = some (some (.ref D)) → PySem.W.kitOne K (.ref C) (.ref D) = some false
  i_NoWord_NoBounds : ∀ C D, PySem.W.nsIn K mainGlobals "NoWord" = some (some (.ref C)) → PySem.W.nsIn K mainGlobals "NoBounds" = some (some (.ref D)) → PySem.W.kitOne K (.ref C) (.ref D) = some false
  i_NoWord_Fault : ∀ C D, PySem.W.nsIn K mainGlobals "NoWord" = some (some (.ref C)) → PySem.W.nsIn K mainGlobals "Fault" = some (some (.ref D)) → PySem.W.kitOne K (.ref C) (.ref D) = some false
  i_NoOffset_NoAddress : ∀ C D, PySem.W.nsIn K mainGlobals "NoOffset" = some (some (.ref C)) → PySem.W.nsIn K mainGlobals "NoAddress" = some (some (.ref D)) → PySem.W.kitOne K (.ref C) (.ref D) = some false
  i_NoOffset_NoWord : ∀ C D, PySem.W.nsIn K mainGlobals "NoOffset" = some (some (.ref C)) → PySem.W.nsIn K mainGlobals "NoWord" = some (some (.ref D)) → PySem.W.kitOne K (.ref C) (.ref D) = some false
  i_NoOffset_NoOffset : ∀ C D, PySem.W.nsIn K mainGlobals "NoOffset" = some (some (.ref C)) → PySem.W.nsIn K mainGlobals "NoOffset" = some (some (.ref D)) → PySem.W.kitOne K (.ref C) (.ref D) = some true
  i_NoOffset_NoBounds : ∀ C D, PySem.W.nsIn K mainGlobals "NoOffset" = some (some (.ref C)) → PySem.W.nsIn K mainGlobals "NoBounds" = some (some (.ref D)) → PySem.W.kitOne K (.ref C) (.ref D) = some false
  i_NoOffset_Fault : ∀ C D, PySem.W.nsIn K mainGlobals "NoOffset" = some (some (.ref C)) → PySem.W.nsIn K mainGlobals "Fault" = some (some (.ref D)) → PySem.W.kitOne K (.ref C) (.ref D) = some false
  i_NoBounds_NoAddress : ∀ C D, PySem.W.nsIn K mainGlobals "NoBounds" = some (some (.ref C)) → PySem.W.nsIn K mainGlobals "NoAddress" = some (some (.ref D)) → PySem.W.kitOne K (.ref C) (.ref D) = some false
  i_NoBounds_NoWord : ∀ C D, PySem.W.nsIn K mainGlobals "NoBounds" = some (some (.ref C)) → PySem.W.nsIn K mainGlobals "NoWord" = some (some (.ref D)) → PySem.W.kitOne K (.ref C) (.ref D) = some false
  i_NoBounds_NoOffset : ∀ C D, PySem.W.nsIn K mainGlobals "NoBounds" = some (some (.ref C)) → PySem.W.nsIn K mainGlobals "NoOffset" = some (some (.ref D)) → PySem.W.kitOne K (.ref C) (.ref D) = some false
  i_NoBounds_NoBounds : ∀ C D, PySem.W.nsIn K mainGlobals "NoBounds" = some (some (.ref C)) → PySem.W.nsIn K mainGlobals "NoBounds" = some (some (.ref D)) → PySem.W.kitOne K (.ref C) (.ref D) = some true
  i_NoBounds_Fault : ∀ C D, PySem.W.nsIn K mainGlobals "NoBounds" = some (some (.ref C)) → PySem.W.nsIn K mainGlobals "Fault" = some (some (.ref D)) → PySem.W.kitOne K (.ref C) (.ref D) = some false
  cl_Cells : ∀ C, PySem.W.nsIn K mainGlobals "Cells" = some (some (.ref C)) → Cls K C
  nf_Cells__words : ∀ C, PySem.W.nsIn K mainGlobals "Cells" = some (some (.ref C)) → NoAttr K C "_words"
  ty_Cells : ∀ C, PySem.W.nsIn K mainGlobals "Cells" = some (some (.ref C)) → PySem.W.findIn K (.ref C) "__class__" = some (some (.builtin "object.__class__")) ∧ PySem.W.specialIn K (.builtin "object.__class__") "__get__" = some (some (.builtin "getset_descriptor.__get__")) ∧ PySem.W.takesIn K (.builtin "object.__class__") = some true ∧ PySem.W.mroIn K C (.type "object") = some true ∧ PySem.W.kitOne K (.ref C) (.ref C) = some true ∧ PySem.W.kitOne K (.type "str") (.ref C) = some false
section
variable {P : Program} {w : World} {K : PySem.W.Frag} {mg : Str → Option Value} {base : Heap}
theorem oki_Fault {f C : Addr} {fd : FuncData} (F : Fun K "__init__" "Fault.__init__" si_Fault f fd) (T : OexC K C) (hno : PySem.W.findIn K (.ref C) "word" = some none) : FnOk P w K mg base CX0 1 f fd ["self", "word"] (spErr C "word") := by
  refine F.ok sci_Fault (fun vs H Q E h => ?_) (fun cdv A outer s H vs Q E hr h => ?_)
  · obtain ⟨a, v, rfl, h1, q⟩ := h; rfl
  · obtain ⟨a, v, rfl, h1, q⟩ := h
    refine ⟨_, pss_one (ps_ost (pv 0) (pv 1)), ?_⟩
    exact ⟨_, rfl, _, rfl, a, C, rfl, T, hno, .inl ⟨h1, fun dx h2 h3 => q dx h2 h3⟩⟩
theorem oki_NoAddress {f C : Addr} {fd : FuncData} (F : Fun K "__init__" "NoAddress.__init__" si_NoAddress f fd) (T : OexC K C) (hno : PySem.W.findIn K (.ref C) "text" = some none) : FnOk P w K mg base CX0 1 f fd ["self", "text"] (spErr C "text") := by
  refine F.ok sci_NoAddress (fun vs H Q E h => ?_) (fun cdv A outer s H vs Q E hr h => ?_)
  · obtain ⟨a, v, rfl, h1, q⟩ := h; rfl
  · obtain ⟨a, v, rfl, h1, q⟩ := h
    refine ⟨_, pss_one (ps_ost (pv 0) (pv 1)), ?_⟩
    exact ⟨_, rfl, _, rfl, a, C, rfl, T, hno, .inl ⟨h1, fun dx h2 h3 => q dx h2 h3⟩⟩
theorem oki_NoBounds {f C : Addr} {fd : FuncData} (F : Fun K "__init__" "NoBounds.__init__" si_NoBounds f fd) (T : OexC K C) (hno : PySem.W.findIn K (.ref C) "text" = some none) : FnOk P w K mg base CX0 1 f fd ["self", "text"] (spErr C "text") := by
  refine F.ok sci_NoBounds (fun vs H Q E h => ?_) (fun cdv A outer s H vs Q E hr h => ?_)
  · obtain ⟨a, v, rfl, h1, q⟩ := h; rfl
  · obtain ⟨a, v, rfl, h1, q⟩ := h
    refine ⟨_, pss_one (ps_ost (pv 0) (pv 1)), ?_⟩
    exact ⟨_, rfl, _, rfl, a, C, rfl, T, hno, .inl ⟨h1, fun dx h2 h3 => q dx h2 h3⟩⟩
theorem oki_NoOffset {f C : Addr} {fd : FuncData} (F : Fun K "__init__" "NoOffset.__init__" si_NoOffset f fd) (T : OexC K C) (hno : PySem.W.findIn K (.ref C) "text" = some none) : FnOk P w K mg base CX0 1 f fd ["self", "text"] (spErr C "text") := by
  refine F.ok sci_NoOffset (fun vs H Q E h => ?_) (fun cdv A outer s H vs Q E hr h => ?_)
  · obtain ⟨a, v, rfl, h1, q⟩ := h; rfl
  · obtain ⟨a, v, rfl, h1, q⟩ := h
    refine ⟨_, pss_one (ps_ost (pv 0) (pv 1)), ?_⟩
    exact ⟨_, rfl, _, rfl, a, C, rfl, T, hno, .inl ⟨h1, fun dx h2 h3 => q dx h2 h3⟩⟩
theorem oki_NoWord {f C : Addr} {fd : FuncData} (F : Fun K "__init__" "NoWord.__init__" si_NoWord f fd) (T : OexC K C) (hno : PySem.W.findIn K (.ref C) "text" = some none) : FnOk P w K mg base CX0 1 f fd ["self", "text"] (spErr C "text") := by
  refine F.ok sci_NoWord (fun vs H Q E h => ?_) (fun cdv A outer s H vs Q E hr h => ?_)
  · obtain ⟨a, v, rfl, h1, q⟩ := h; rfl
  · obtain ⟨a, v, rfl, h1, q⟩ := h
    refine ⟨_, pss_one (ps_ost (pv 0) (pv 1)), ?_⟩
    exact ⟨_, rfl, _, rfl, a, C, rfl, T, hno, .inl ⟨h1, fun dx h2 h3 => q dx h2 h3⟩⟩

def sp_is_whole (K : PySem.W.Frag) : Sp := fun vs H Q _ => ∃ v l m, vs = [v, .int l, .int m] ∧ Kd H v ∧ ∀ b, (b = true ↔ ∃ n, v = .int n ∧ l ≤ n ∧ n ≤ m) → Q (.bl b) H
theorem ok_is_whole {f : Addr} {fd : FuncData} (F : Fun K "is_whole" "is_whole" s_is_whole f fd) (T : Txt K w mg) : FnOk P w K mg base CX0 1 f fd ["thing", "least", "most"] (sp_is_whole K) := by
  refine F.ok sc_is_whole (fun vs H Q E h => ?_) (fun cdv A outer s H vs Q E hr h => ?_)
  · obtain ⟨v, l, m, rfl, hv, q⟩ := h; rfl
  · obtain ⟨v, l, m, rfl, hv, q⟩ := h
    refine ⟨_, (pss_one (ps_ret (pe_and (pe_callB (r := rIsi K) call_isi (by rfl) T.z_isinstance (by decide +kernel) (pa_cons (pv 0) (pa_cons (pe_bltn (v := .ty "int") (by rfl) T.z_int (by decide +kernel) rfl) pa_nil))) (pe_and (pe_not (pe_callB (r := rIsi K) call_isi (by rfl) T.z_isinstance (by decide +kernel) (pa_cons (pv 0) (pa_cons (pe_bltn (v := .ty "bool") (by rfl) T.z_bool (by decide +kernel) rfl) pa_nil)))) (pe_one (pe_chain op_le op_le (pv 1) (pv 0) (pv 2))))))), ?_⟩
    obtain ⟨t, ty, kt⟩ := hv.int? (K := K)
    refine ⟨_, rfl, _, _, t, _, isI v, rfl, .ty "int", ty, kt, isI v, rfl, ifb (fun e1 => ?_) (fun e1 => ?_)⟩
    · obtain ⟨t2, ty2, kt2⟩ := hv.bool? (K := K)
      refine ⟨_, rfl, _, _, t2, _, isB v, rfl, .ty "bool", ty2, kt2, isB v, rfl, !isB v, rfl, ifnb (fun e2 => ?_) (fun e2 => ?_)⟩
      · obtain ⟨n, rfl⟩ : ∃ n, v = .int n := by
          cases hv with
          | int i => exact ⟨i, rfl⟩
          | bl b => cases e2
          | _ => cases e1
        refine ⟨_, rfl, _, rfl, _, _, rfl, rfl, _, rfl, ifd (fun h1 => ?_) (fun h1 => ?_)⟩
        · refine ⟨_, rfl, _, _, rfl, rfl, q _ ?_⟩
          rw [decide_eq_true_iff]
          exact ⟨fun h => ⟨n, rfl, h1, h⟩, fun ⟨n', e, h3, h4⟩ => by cases e; exact h4⟩
        · refine q _ ⟨fun h => Bool.noConfusion h, fun ⟨n', e, h3, h4⟩ => by cases e; exact absurd h3 h1⟩
      · refine q _ ⟨fun h => Bool.noConfusion h, fun ⟨n', e, h3, h4⟩ => by cases e; cases e2⟩
    · refine q _ ⟨fun h => Bool.noConfusion h, fun ⟨n', e, h3, h4⟩ => by cases e; cases e1⟩

def sp_are_bounds (K : PySem.W.Frag) : Sp := fun vs H Q _ => ∃ v u, vs = [v, u] ∧ Kd H v ∧ Kd H u ∧ ∀ b, (b = true ↔ ∃ lo hi, v = .int lo ∧ u = .int hi ∧ Bd lo hi) → Q (.bl b) H
theorem ok_are_bounds {f : Addr} {fd : FuncData} (F : Fun K "are_bounds" "are_bounds" s_are_bounds f fd) (T : Txt K w mg) (C_is_whole : Cal P w K mg base "is_whole" 1 ["thing", "least", "most"] (sp_is_whole K)) : FnOk P w K mg base CX0 2 f fd ["low", "high"] (sp_are_bounds K) := by
  obtain ⟨t_CELLS, hc_CELLS⟩ := T.c_CELLS
  refine F.ok sc_are_bounds (fun vs H Q E h => ?_) (fun cdv A outer s H vs Q E hr h => ?_)
  · obtain ⟨v, u, rfl, hv, hu, q⟩ := h; rfl
  · obtain ⟨v, u, rfl, hv, hu, q⟩ := h
    refine ⟨_, (pss_one (ps_ret (pe_and (pe_cal C_is_whole (hr.mono (by decide)) (pa_cons (pv 0) (pa_cons pe_int (pa_cons (pe_glob (v := .int 4096) (by rfl) hc_CELLS ⟨_, rfl⟩) pa_nil)))) (pe_and (pe_cal C_is_whole (hr.mono (by decide)) (pa_cons (pv 1) (pa_cons pe_int (pa_cons (pe_glob (v := .int 4096) (by rfl) hc_CELLS ⟨_, rfl⟩) pa_nil)))) (pe_one (pe_cmpR op_lt (pv 0) (pv 1) (nomark _))))))), ?_⟩
    refine ⟨_, rfl, _, _, _, rfl, hv, fun b hb => ⟨_, rfl, ifb (fun e => ?_) (fun e => ?_)⟩⟩
    · refine ⟨_, rfl, _, _, _, rfl, hu, fun c hc => ⟨_, rfl, ifb (fun e2 => ?_) (fun e2 => ?_)⟩⟩
      · obtain ⟨lo, rfl, l1, l2⟩ := hb.mp e
        obtain ⟨hi, rfl, l3, l4⟩ := hc.mp e2
        refine ⟨_, rfl, _, rfl, _, _, rfl, rfl, q _ ?_⟩
        rw [decide_eq_true_iff]
        exact ⟨fun h => ⟨lo, hi, rfl, rfl, l1, h, l4⟩, fun ⟨a, c, e3, e4, h⟩ => by cases e3; cases e4; exact h.2.1⟩
      · refine q _ ⟨fun h => Bool.noConfusion h, fun ⟨a, c, e3, e4, h⟩ => ?_⟩
        obtain ⟨h1, h2, h3⟩ := h
        rw [hc.mpr ⟨c, e4, by omega, h3⟩] at e2; cases e2
    · refine q _ ⟨fun h => Bool.noConfusion h, fun ⟨a, c, e3, e4, h⟩ => ?_⟩
      obtain ⟨h1, h2, h3⟩ := h
      rw [hb.mpr ⟨a, e3, h1, by omega⟩] at e; cases e

def sp_look_at_bounds (K : PySem.W.Frag) : Sp := fun vs H Q _ => ∃ lo hi, vs = [.int lo, .int hi] ∧ Bd lo hi ∧ Q .non H
theorem ok_look_at_bounds {f : Addr} {fd : FuncData} (F : Fun K "look_at_bounds" "look_at_bounds" s_look_at_bounds f fd) (T : Txt K w mg) (C_are_bounds : Cal P w K mg base "are_bounds" 2 ["low", "high"] (sp_are_bounds K)) : FnOk P w K mg base CX0 3 f fd ["low", "high"] (sp_look_at_bounds K) := by
  refine F.ok sc_look_at_bounds (fun vs H Q E h => ?_) (fun cdv A outer s H vs Q E hr h => ?_)
  · obtain ⟨lo, hi, rfl, hb, q⟩ := h; rfl
  · obtain ⟨lo, hi, rfl, hb, q⟩ := h
    refine ⟨_, (pss_one (ps_if (pt_not (pt_val (pe_cal C_are_bounds (hr.mono (by decide)) (pa_cons (pv 0) (pa_cons (pv 1) pa_nil))))) (pss_one ps_never) pss_nil)), ?_⟩
    refine ⟨_, rfl, _, rfl, .int lo, .int hi, rfl, .int _, .int _, fun b hb2 => ⟨_, rfl, ?_⟩⟩
    have e : b = true := hb2.mpr ⟨lo, hi, rfl, rfl, hb⟩
    subst e
    exact q

def sp__has_some (K : PySem.W.Frag) : Sp := fun vs H Q _ => ∃ r g : Str, vs = [.str r, .str g] ∧ g.cps.size ≤ 9 ∧ ∀ H', Same H H' → Q (.bl (hasG r g)) H'
theorem ok__has_some {f : Addr} {fd : FuncData} (F : Fun K "_has_some" "_has_some" s__has_some f fd) (T : Txt K w mg) : FnOk P w K mg base CX0 1 f fd ["rights", "group"] (sp__has_some K) := by
  refine F.ok sc__has_some (fun vs H Q E h => ?_) (fun cdv A outer s H vs Q E hr h => ?_)
  · obtain ⟨r, g, rfl, hg, q⟩ := h; rfl
  · obtain ⟨r, g, rfl, hg, q⟩ := h
    refine ⟨_, (pss_one (ps_ret (pe_callB (cr_any rfl) (by rfl) T.z_any (by decide +kernel) (pa_cons (pe_lc (own := [("sign", 2)]) rfl sc__has_some.nd (pi_str (pv 1)) (blkOk_by (own := [("sign", 2)]) (N := ["rights", "group", "sign"]) (sc := defScope s__has_some) (by decide +kernel)) (fun _ _ _ _ _ => (pg_name (i := 2) sc__has_some.nd rfl (.inl rfl))) (fun _ _ _ _ _ => pts_nil) (fun _ _ _ _ _ => (pe_cmpR op_in_sign (pv 2) (pv 0) (by rfl)))) pa_nil)))), ?_⟩
    refine ⟨_, rfl, g, rfl, fun D hD => ?_⟩
    refine lc_it (walk_str (z := g)) (fun i H' => Same H H' ∧ H' D = some (.lst (((g.cps.toList.take i).map fun c => decide (c ∈ r.cps.toList)).map V.bl))) ⟨same_new hD, upd_same⟩ (fun _ _ _ _ => trivial) ?_ ?_
    · rintro i x H1 H2 hi ⟨sm, hl⟩ ⟨rfl, c, hc, rfl⟩
      refine ⟨rfl, ?_⟩
      refine ⟨_, rfl, _, rfl, c, r, rfl, rfl, _, hl, ?_, ?_, ?_⟩
      · rw [List.length_map, List.length_map, List.length_take]; exact szn (by omega)
      · exact fun b o e => by
          have n : b ≠ D := ne_of_none e hD
          rw [upd_ne n]; exact sm b o e
      · rw [upd_same, take_any hi, List.map_append]
        have e : g.cps[i] = c := by
          have := Array.getElem?_eq_getElem hi
          rw [this] at hc
          exact Option.some.inj hc
        rw [e]; rfl
    · rintro H1 ⟨sm, hl⟩
      refine ⟨D, _, rfl, .of hl, ?_⟩
      have e : (((g.cps.toList.take g.cps.size).map fun c => decide (c ∈ r.cps.toList)).any id) = hasG r g := by
        rw [show g.cps.size = g.cps.toList.length by simp, List.take_length]
        unfold hasG
        rw [List.any_map]; rfl
      exact qb (q _ sm) e

def sp__lead_one_way (K : PySem.W.Frag) : Sp := fun vs H Q _ => ∃ r : Str, vs = [.str r] ∧ ∀ H', Same H H' → Q (.bl (decide (([G0, G1, G2].filter (hasG r)).length ≤ 1))) H'
theorem ok__lead_one_way {f : Addr} {fd : FuncData} (F : Fun K "_lead_one_way" "_lead_one_way" s__lead_one_way f fd) (T : Txt K w mg) (C__has_some : Cal P w K mg base "_has_some" 1 ["rights", "group"] (sp__has_some K)) : FnOk P w K mg base CX0 2 f fd ["rights"] (sp__lead_one_way K) := by
  obtain ⟨p_GROUPS, hc_GROUPS, hs_GROUPS⟩ := T.c_GROUPS
  refine F.ok sc__lead_one_way (fun vs H Q E h => ?_) (fun cdv A outer s H vs Q E hr h => ?_)
  · obtain ⟨r, rfl, q⟩ := h; rfl
  · obtain ⟨r, rfl, q⟩ := h
    refine ⟨_, (pss_one (ps_ret (pe_cmpR op_le (pe_callB (r := rLenSq K) call_lenSq (by rfl) T.z_len (by decide +kernel) (pa_cons (pe_lc (own := [("group", 1)]) rfl sc__lead_one_way.nd (pi_tup (pe_glob (v := .ref p_GROUPS) (by rfl) hc_GROUPS rfl)) (blkOk_by (own := [("group", 1)]) (N := ["rights", "group"]) (sc := defScope s__lead_one_way) (by decide +kernel)) (fun _ _ _ _ _ => (pg_name (i := 1) sc__lead_one_way.nd rfl (.inl rfl))) (fun _ _ _ _ _ => (pts_one (pt_val (pe_cal C__has_some (hr.mono (by decide)) (pa_cons (pv 0) (pa_cons (pv 1) pa_nil)))))) (fun _ _ _ _ _ => (pv 1))) pa_nil)) pe_int (nomark _)))), ?_⟩
    refine ⟨p_GROUPS, rfl, ⟨_, hs_GROUPS _⟩, fun D hD => ?_⟩
    refine lc_it (walk_tup (xs := [.str G0, .str G1, .str G2])) (fun i H' => Same H H' ∧ H' D = some (.lst ((([G0, G1, G2].take i).filter (hasG r)).map V.str))) ⟨same_new hD, upd_same⟩ (fun _ _ _ _ => hs_GROUPS _) ?_ ?_
    · rintro i x H1 H2 hi ⟨sm, hl⟩ ⟨rfl, hx⟩
      obtain ⟨g, hg, rfl⟩ : ∃ g, [G0, G1, G2][i]? = some g ∧ x = V.str g := by
        have : i = 0 ∨ i = 1 ∨ i = 2 := by simp at hi; omega
        rcases this with e | e | e <;> subst e <;> exact ⟨_, rfl, (Option.some.inj hx).symm⟩
      have hg9 : g.cps.size ≤ 9 := by
        have : i = 0 ∨ i = 1 ∨ i = 2 := by simp at hi; omega
        rcases this with e | e | e <;> subst e <;> (cases hg; decide +kernel)
      refine ⟨rfl, ?_⟩
      refine ⟨_, rfl, _, rfl, r, g, rfl, hg9, fun H3 s3 => ⟨_, rfl, ?_⟩⟩
      have tk : [G0, G1, G2].take (i + 1) = [G0, G1, G2].take i ++ [g] := by rw [List.take_add_one, hg]; rfl
      have sm3 := sm.trans s3
      refine ifb (fun e => ?_) (fun e => ?_)
      · refine ⟨_, rfl, _, s3 _ _ hl, ?_, ?_, ?_⟩
        · rw [List.length_map]
          have h1 := List.length_filter_le (hasG r) ([G0, G1, G2].take i)
          have h2 : ([G0, G1, G2].take i).length ≤ 3 := by rw [List.length_take]; exact Nat.min_le_right _ _
          exact szn (by omega)
        · exact fun b o e => by
            have n : b ≠ D := ne_of_none e hD
            rw [upd_ne n]; exact sm3 b o e
        · rw [upd_same, tk, List.filter_append, List.map_append]
          simp [e]
      · refine ⟨sm3, ?_⟩
        rw [tk, List.filter_append]
        simp [e]
        exact s3 _ _ hl
    · rintro H1 ⟨sm, hl⟩
      refine ⟨D, _, rfl, .inl (.of hl), _, _, rfl, rfl, ?_⟩
      have e : decide (((([G0, G1, G2].take 3).filter (hasG r)).map V.str).length ≤ (1 : Int)) = decide (([G0, G1, G2].filter (hasG r)).length ≤ 1) := by
        rw [List.length_map, show [G0, G1, G2].take 3 = [G0, G1, G2] from rfl]
        rw [decide_eq_decide]
        omega
      exact qb (q _ sm) e

def sp_field (K : PySem.W.Frag) : Sp := fun vs H Q _ => ∃ (b : Int) (p : Addr) (lo mn : Nat), vs = [.int b, .ref p] ∧ SqT K H p [.int lo, .int mn] ∧ 0 ≤ b ∧ lo ≤ 100 ∧ mn ≤ 100 ∧ Q (.int (b / 2 ^ lo % 2 ^ mn)) H
theorem ok_field {f : Addr} {fd : FuncData} (F : Fun K "field" "field" s_field f fd) (T : Txt K w mg) : FnOk P w K mg base CX0 1 f fd ["bits", "place"] (sp_field K) := by
  refine F.ok sc_field (fun vs H Q E h => ?_) (fun cdv A outer s H vs Q E hr h => ?_)
  · obtain ⟨b, p, lo, mn, rfl, hp, hb, hlo, hmn, q⟩ := h; rfl
  · obtain ⟨b, p, lo, mn, rfl, hp, hb, hlo, hmn, q⟩ := h
    refine ⟨_, (pss_cons (ps_asg (pv 1) (pg_tup rfl (pgs_cons (pg_name (i := 2) sc_field.nd rfl (.inl rfl)) (pgs_cons (pg_name (i := 3) sc_field.nd rfl (.inl rfl)) pgs_nil))))
      (pss_one (ps_ret (pe_op op_and (pe_op op_shr (pv 0) (pv 2)) (pe_op op_sub (pe_op op_shl pe_int (pv 3)) pe_int))))), ?_⟩
    refine ⟨_, rfl, p, _, rfl, hp, rfl, _, _, rfl, _, _, rfl, rfl, ?_⟩
    refine ⟨_, rfl, _, rfl, _, _, rfl, rfl, by omega, _, rfl, _, _, rfl, rfl, ⟨by omega, by omega, by decide⟩, _, _, rfl, rfl, _, _, rfl, rfl, ?_⟩
    have e : Builtin.bitAnd (b / 2 ^ lo) (1 * 2 ^ mn - 1) = b / 2 ^ lo % 2 ^ mn := by
      rw [Int.one_mul, Bits.bitAnd_mask mn (Int.ediv_nonneg hb (Int.le_of_lt (pow_pos2 lo)))]
    exact qi q e

def sp_rights_in (K : PySem.W.Frag) : Sp := fun vs H Q _ => ∃ b : Int, vs = [.int b] ∧ 0 ≤ b ∧ ∀ H', Same H H' → Q (.str (rtx (bitp (fRts b)))) H'
theorem ok_rights_in {f : Addr} {fd : FuncData} (F : Fun K "rights_in" "rights_in" s_rights_in f fd) (T : Txt K w mg) (C_field : Cal P w K mg base "field" 1 ["bits", "place"] (sp_field K)) : FnOk P w K mg base CX0 2 f fd ["bits"] (sp_rights_in K) := by
  obtain ⟨t_RIGHTS, hc_RIGHTS⟩ := T.c_RIGHTS
  obtain ⟨p_RIGHTS_BITS, hc_RIGHTS_BITS, hs_RIGHTS_BITS⟩ := T.c_RIGHTS_BITS
  refine F.ok sc_rights_in (fun vs H Q E h => ?_) (fun cdv A outer s H vs Q E hr h => ?_)
  · obtain ⟨b, rfl, hb, q⟩ := h; rfl
  · obtain ⟨b, rfl, hb, q⟩ := h
    refine ⟨_, (pss_cons (ps_set (i := 1) sc_rights_in.nd rfl (.inr rfl) (pe_cal C_field (hr.mono (by decide)) (pa_cons (pv 0) (pa_cons (pe_glob (v := .ref p_RIGHTS_BITS) (by rfl) hc_RIGHTS_BITS rfl) pa_nil))))
      (pss_one (ps_ret (pe_join pe_str (pe_lc (own := [("k", 2), ("sign", 3)]) (g := gTup K 2 (gCons (gName 2) (gCons (gName 3) gNil))) rfl sc_rights_in.nd (pi_enumS (by rfl) T.z_enumerate (pa_cons (pe_glob (v := .str (Str.ofString "rwlsnfxco")) (by rfl) hc_RIGHTS ⟨_, rfl⟩) pa_nil)) (blkOk_by (own := [("k", 2), ("sign", 3)]) (N := ["bits", "number", "k", "sign"]) (sc := defScope s_rights_in) (by decide +kernel)) (fun _ _ _ _ _ => by exact (pg_tup rfl (pgs_cons (pg_name (i := 2) sc_rights_in.nd rfl (.inl rfl)) (pgs_cons (pg_name (i := 3) sc_rights_in.nd rfl (.inl rfl)) pgs_nil)))) (fun _ _ _ _ _ => (pts_one (pt_cmpR op_eq (pe_op op_and (pe_op op_shr (pv 1) (pv 2)) pe_int) pe_int (nomark _)))) (fun _ _ _ _ _ => (pv 3))))))), ?_⟩
    refine ⟨_, rfl, b, p_RIGHTS_BITS, 32, 9, rfl, hs_RIGHTS_BITS _, hb, by decide, by decide, ?_⟩
    refine ⟨⟨_, rfl⟩, RT, rfl, fun D hD => ?_⟩
    have h0 : 0 ≤ fRts b := Int.emod_nonneg _ (by decide)
    refine lc_it (walk_enumS (z := RT)) (fun i H' => Same H H' ∧ H' D = some (.lst ((rcs (bitp (fRts b)) i).map V.str))) ⟨same_new hD, upd_same⟩ (fun _ _ _ _ => trivial) ?_ ?_
    · rintro i x H1 H2 hi ⟨sm, hl⟩ ⟨Tp, x1, y1, rfl, hn, rfl, hx1, hy1⟩
      rw [RT_size] at hi
      have hy1 : (RT.cps[i]?).map (fun c => V.str ⟨#[c]⟩) = some y1 := hy1
      rw [RT_get i hi] at hy1
      have e1 : x1 = .int (i : Int) := (Option.some.inj hx1).symm
      have e2 : y1 = .str (one (code i)) := (Option.some.inj hy1).symm
      subst e1 e2
      have nD : D ≠ Tp := ne_of_none hl hn
      refine ⟨Tp, _, rfl, .of upd_same, rfl, _, _, rfl, _, _, rfl, rfl, wp2 (by simp) (by simp), ?_⟩
      have eb : Builtin.bitAnd (fRts b / 2 ^ i) 1 = fRts b / 2 ^ i % 2 := by
        have := Bits.bitAnd_mask 1 (x := fRts b / 2 ^ i) (Int.ediv_nonneg h0 (Int.le_of_lt (pow_pos2 i)))
        exact this
      refine ⟨_, rfl, _, rfl, _, _, rfl, rfl, by omega, _, _, rfl, rfl, rfl, _, rfl, ifd (fun e => ?_) (fun e => ?_)⟩
      · have e3 : bitp (fRts b) i = true := by
          unfold bitp
          rw [← eb]
          exact decide_eq_true (V.int.inj e)
        refine ⟨_, rfl, _, (by rw [upd_ne nD]; exact hl), ?_, ?_, ?_⟩
        · rw [List.length_map]
          have := rcs_len (bitp (fRts b)) i
          exact szn (by omega)
        · exact fun b o e => by
            have n : b ≠ D := ne_of_none e hD
            have n2 : b ≠ Tp := ne_of_none (sm b o e) hn
            rw [upd_ne n, upd_ne n2]; exact sm b o e
        · rw [upd_same, rcs_succ, List.map_append, if_pos e3]; rfl
      · refine ⟨sameN sm hn, ?_⟩
        have e3 : ¬ bitp (fRts b) i = true := by
          unfold bitp
          rw [← eb]
          intro z
          exact e (congrArg V.int (of_decide_eq_true z))
        rw [upd_ne nD, rcs_succ, if_neg e3, List.append_nil]
        exact hl
    · rintro H1 ⟨sm, hl⟩
      rw [RT_size] at hl
      exact ⟨_, D, _, rfl, rfl, .inl (.of hl), rcs_fit _, q _ sm⟩

def sp__tell (K : PySem.W.Frag) : Sp := fun vs H Q _ => ∃ b : Int, vs = [.int b] ∧ 0 ≤ b ∧ ∀ c, (c = true ↔ Tells b) → Q (.bl c) H
theorem ok__tell {f : Addr} {fd : FuncData} (F : Fun K "_tell" "_tell" s__tell f fd) (T : Txt K w mg) (C_field : Cal P w K mg base "field" 1 ["bits", "place"] (sp_field K)) : FnOk P w K mg base CX0 2 f fd ["bits"] (sp__tell K) := by
  obtain ⟨t_CELLS, hc_CELLS⟩ := T.c_CELLS
  obtain ⟨p_COUNT_LESS_ONE, hc_COUNT_LESS_ONE, hs_COUNT_LESS_ONE⟩ := T.c_COUNT_LESS_ONE
  obtain ⟨p_FIRST, hc_FIRST, hs_FIRST⟩ := T.c_FIRST
  obtain ⟨t_LEAST_COUNT, hc_LEAST_COUNT⟩ := T.c_LEAST_COUNT
  obtain ⟨p_STEP, hc_STEP, hs_STEP⟩ := T.c_STEP
  obtain ⟨t_TOP_STEP, hc_TOP_STEP⟩ := T.c_TOP_STEP
  refine F.ok sc__tell (fun vs H Q E h => ?_) (fun cdv A outer s H vs Q E hr h => ?_)
  · obtain ⟨b, rfl, hb, q⟩ := h; rfl
  · obtain ⟨b, rfl, hb, q⟩ := h
    refine ⟨_, (pss_cons (ps_set (i := 1) sc__tell.nd rfl (.inl rfl) (pe_cal C_field (hr.mono (by decide)) (pa_cons (pv 0) (pa_cons (pe_glob (v := .ref p_STEP) (by rfl) hc_STEP rfl) pa_nil))))
      (pss_cons (ps_set (i := 2) sc__tell.nd rfl (.inl rfl) (pe_op op_add (pe_cal C_field (hr.mono (by decide)) (pa_cons (pv 0) (pa_cons (pe_glob (v := .ref p_COUNT_LESS_ONE) (by rfl) hc_COUNT_LESS_ONE rfl) pa_nil))) pe_int))
      (pss_cons (ps_if (PW.pt (pw_or (pt_cmpR op_gt (pv 1) (pe_glob (v := .int 8) (by rfl) hc_TOP_STEP ⟨_, rfl⟩) (nomark _)) (pw_or1 (PW.pt (pw_and (pt_cmpR op_gt (pv 1) pe_int (nomark _)) (pw_and1 (pt_cmpR op_lt (pv 2) (pe_glob (v := .int 9) (by rfl) hc_LEAST_COUNT ⟨_, rfl⟩) (nomark _)))))))) (pss_one (ps_ret pe_bl)) pss_nil)
      (pss_one (ps_ret (pe_cmpR op_le (pe_op op_shl (pe_op op_add (pe_cal C_field (hr.mono (by decide)) (pa_cons (pv 0) (pa_cons (pe_glob (v := .ref p_FIRST) (by rfl) hc_FIRST rfl) pa_nil))) (pv 2)) (pv 1)) (pe_glob (v := .int 4096) (by rfl) hc_CELLS ⟨_, rfl⟩) (nomark _))))))), ?_⟩
    have f := fb b
    refine ⟨_, rfl, b, p_STEP, 28, 4, rfl, hs_STEP _, hb, by decide, by decide, ?_⟩
    refine ⟨_, rfl, b, p_COUNT_LESS_ONE, 24, 4, rfl, hs_COUNT_LESS_ONE _, hb, by decide, by decide, _, _, rfl, rfl, ?_⟩
    refine ⟨_, rfl, _, _, rfl, rfl, _, rfl, ifd (fun c1 => ?_) (fun c1 => ?_)⟩
    · have c2 : 8 < fStep b := c1
      show Q (.bl false) H
      exact q _ ⟨fun h => Bool.noConfusion h, fun h => absurd h.1 (by omega)⟩
    have c2 : ¬ 8 < fStep b := c1
    have fin : ((fStep b = 0 ∨ 9 ≤ fCnt b)) → Q (.bl (decide ((fFirst b + fCnt b) * 2 ^ (fStep b).toNat ≤ 4096))) H := fun z => by
      refine q _ ?_
      rw [decide_eq_true_iff]
      exact ⟨fun h => ⟨by omega, z, h⟩, fun h => h.2.2⟩
    refine ⟨_, rfl, _, _, rfl, rfl, _, rfl, ifd (fun c3 => ?_) (fun c3 => ?_)⟩
    · have c4 : 0 < fStep b := c3
      refine ⟨_, rfl, _, _, rfl, rfl, _, rfl, ifd (fun c5 => ?_) (fun c5 => ?_)⟩
      · have c6 : fCnt b < 9 := c5
        show Q (.bl false) H
        exact q _ ⟨fun h => Bool.noConfusion h, fun h => by have := h.2.1; omega⟩
      · have c6 : ¬ fCnt b < 9 := c5
        refine ⟨_, rfl, b, p_FIRST, 12, 12, rfl, hs_FIRST _, hb, by decide, by decide, _, rfl, _, _, rfl, rfl, _, rfl, _, _, rfl, rfl, cpw (z := fFirst b + fCnt b) (s := fStep b) (by omega) (by omega) (by omega) (by omega), _, _, rfl, rfl, fin (.inr (by omega))⟩
    · have c4 : ¬ 0 < fStep b := c3
      refine ⟨_, rfl, b, p_FIRST, 12, 12, rfl, hs_FIRST _, hb, by decide, by decide, _, rfl, _, _, rfl, rfl, _, rfl, _, _, rfl, rfl, cpw (z := fFirst b + fCnt b) (s := fStep b) (by omega) (by omega) (by omega) (by omega), _, _, rfl, rfl, fin (.inl (by omega))⟩

def sp__may_be_marked (K : PySem.W.Frag) : Sp := fun vs H Q _ => ∃ n, vs = [.int n] ∧ 0 ≤ n ∧ ∀ b H', Same H H' → (b = true ↔ Law n) → Q (.bl b) H'
theorem ok__may_be_marked {f : Addr} {fd : FuncData} (F : Fun K "_may_be_marked" "_may_be_marked" s__may_be_marked f fd) (T : Txt K w mg) (C__lead_one_way : Cal P w K mg base "_lead_one_way" 2 ["rights"] (sp__lead_one_way K)) (C_rights_in : Cal P w K mg base "rights_in" 2 ["bits"] (sp_rights_in K)) (C__tell : Cal P w K mg base "_tell" 2 ["bits"] (sp__tell K)) : FnOk P w K mg base CX0 3 f fd ["bits"] (sp__may_be_marked K) := by
  refine F.ok sc__may_be_marked (fun vs H Q E h => ?_) (fun cdv A outer s H vs Q E hr h => ?_)
  · obtain ⟨n, rfl, hn, q⟩ := h; rfl
  · obtain ⟨n, rfl, hn, q⟩ := h
    refine ⟨_, (pss_one (ps_ret (pe_and (pe_cal C__tell (hr.mono (by decide)) (pa_cons (pv 0) pa_nil)) (pe_one (pe_cal C__lead_one_way (hr.mono (by decide)) (pa_cons (pe_cal C_rights_in (hr.mono (by decide)) (pa_cons (pv 0) pa_nil)) pa_nil)))))), ?_⟩
    refine ⟨_, rfl, n, rfl, hn, fun c hc => ⟨_, rfl, ifb (fun e => ?_) (fun e => ?_)⟩⟩
    · refine ⟨_, rfl, n, rfl, hn, fun H1 s1 => ⟨_, rfl, fun H2 s2 => q _ _ (s1.trans s2) ?_⟩⟩
      rw [decide_eq_true_iff]
      exact ⟨fun h => ⟨hc.mp e, h⟩, fun h => h.2⟩
    · exact q _ _ (Same.refl _) ⟨fun h => Bool.noConfusion h, fun h => by rw [hc.mpr h.1] at e; cases e⟩

def sp_is_word (K : PySem.W.Frag) : Sp := fun vs H Q _ => ∃ v, vs = [v] ∧ ((∃ p xs, v = .ref p ∧ H p = some (.tup xs) ∧ (∀ x ∈ xs, Kd H x) ∧ ∀ b, (b = true ↔ ∃ m n, xs = [.bl m, .int n] ∧ W45 n) → Q (.bl b) H) ∨ (NoT H v ∧ Q (.bl false) H))
theorem ok_is_word {f : Addr} {fd : FuncData} (F : Fun K "is_word" "is_word" s_is_word f fd) (T : Txt K w mg) (C_is_whole : Cal P w K mg base "is_whole" 1 ["thing", "least", "most"] (sp_is_whole K)) : FnOk P w K mg base CX0 2 f fd ["thing"] (sp_is_word K) := by
  obtain ⟨t_WORTHS, hc_WORTHS⟩ := T.c_WORTHS
  refine F.ok sc_is_word (fun vs H Q E h => ?_) (fun cdv A outer s H vs Q E hr h => ?_)
  · obtain ⟨v, rfl, q⟩ := h; rfl
  · obtain ⟨v, rfl, q⟩ := h
    refine ⟨_, (pss_cons (ps_if (PW.pt (pw_or (pt_not (pt_val (pe_callB (r := rIsi K) call_isi (by rfl) T.z_isinstance (by decide +kernel) (pa_cons (pv 0) (pa_cons (pe_bltn (v := .ty "tuple") (by rfl) T.z_tuple (by decide +kernel) rfl) pa_nil))))) (pw_or1 (pt_cmpR op_ne (pe_callB (r := rLenSq K) call_lenSq (by rfl) T.z_len (by decide +kernel) (pa_cons (pv 0) pa_nil)) pe_int (nomark _))))) (pss_one (ps_ret pe_bl)) pss_nil)
      (pss_cons (ps_asg (pv 0) (pg_tup rfl (pgs_cons (pg_name (i := 1) sc_is_word.nd rfl (.inl rfl)) (pgs_cons (pg_name (i := 2) sc_is_word.nd rfl (.inl rfl)) pgs_nil))))
      (pss_one (ps_ret (pe_and (pe_callB (r := rIsi K) call_isi (by rfl) T.z_isinstance (by decide +kernel) (pa_cons (pv 1) (pa_cons (pe_bltn (v := .ty "bool") (by rfl) T.z_bool (by decide +kernel) rfl) pa_nil))) (pe_one (pe_cal C_is_whole (hr.mono (by decide)) (pa_cons (pv 2) (pa_cons pe_int (pa_cons (pe_op op_sub (pe_glob (v := .int 35184372088832) (by rfl) hc_WORTHS ⟨_, rfl⟩) pe_int) pa_nil)))))))))), ?_⟩
    rcases q with ⟨p, xs, rfl, hp, hk, q⟩ | ⟨nt, q⟩
    · refine ⟨_, rfl, _, _, _, _, true, rfl, .ty "tuple", .base (.tup hp), kit_ty (by decide +kernel), true, rfl, ?_⟩
      refine ⟨_, rfl, p, _, rfl, .inr (.of hp), rfl, _, rfl, ifnd (fun c => ?_) (fun c => ?_)⟩
      · show Q (.bl false) H
        refine q _ ⟨fun h => Bool.noConfusion h, fun ⟨m, n, e, _⟩ => ?_⟩
        subst e
        exact absurd rfl c
      have h2 : xs.length = 2 := by
        have := V.int.inj c
        omega
      obtain ⟨x1, x2, rfl⟩ : ∃ x1 x2, xs = [x1, x2] := match xs, h2 with
        | [a, b], _ => ⟨a, b, rfl⟩
      refine ⟨_, rfl, p, _, rfl, .of hp, rfl, _, _, rfl, _, _, rfl, rfl, ?_⟩
      obtain ⟨t, ty, kt⟩ := (hk x1 (by simp)).bool? (K := K)
      refine ⟨_, rfl, _, _, t, _, isB x1, rfl, .ty "bool", ty, kt, isB x1, rfl, ifb (fun e1 => ?_) (fun e1 => ?_)⟩
      · obtain ⟨m, rfl⟩ : ∃ m, x1 = .bl m := by
          cases x1 with
          | bl m => exact ⟨m, rfl⟩
          | _ => cases e1
        refine ⟨_, rfl, _, _, rfl, rfl, x2, _, _, rfl, hk x2 (by simp), fun b hb => q _ ?_⟩
        rw [hb]
        constructor
        · rintro ⟨n, rfl, h0, h1⟩
          exact ⟨m, n, rfl, h0, by omega⟩
        · rintro ⟨m', n, e, h0, h1⟩
          injection e with _ e
          injection e with e _
          exact ⟨n, e, h0, by omega⟩
      · refine q _ ⟨fun h => Bool.noConfusion h, fun ⟨m, n, e, _⟩ => ?_⟩
        injection e with e _
        subst e
        cases e1
    · obtain ⟨t, ty, kt⟩ := nt.tup? (K := K)
      refine ⟨_, rfl, _, _, t, _, false, rfl, .ty "tuple", ty, kt, false, rfl, ?_⟩
      exact q

def sp_is_lawful (K : PySem.W.Frag) : Sp := fun vs H Q _ => ∃ v, vs = [v] ∧ ((∃ p xs, v = .ref p ∧ H p = some (.tup xs) ∧ (∀ x ∈ xs, Kd H x) ∧ ∀ b H', Same H H' → (b = true ↔ ∃ m n, xs = [.bl m, .int n] ∧ W45 n ∧ (m = true → Law n)) → Q (.bl b) H') ∨ (NoT H v ∧ ∀ H', Same H H' → Q (.bl false) H'))
theorem ok_is_lawful {f : Addr} {fd : FuncData} (F : Fun K "is_lawful" "is_lawful" s_is_lawful f fd) (T : Txt K w mg) (C__may_be_marked : Cal P w K mg base "_may_be_marked" 3 ["bits"] (sp__may_be_marked K)) (C_is_word : Cal P w K mg base "is_word" 2 ["thing"] (sp_is_word K)) : FnOk P w K mg base CX0 4 f fd ["thing"] (sp_is_lawful K) := by
  refine F.ok sc_is_lawful (fun vs H Q E h => ?_) (fun cdv A outer s H vs Q E hr h => ?_)
  · obtain ⟨v, rfl, q⟩ := h; rfl
  · obtain ⟨v, rfl, q⟩ := h
    refine ⟨_, (pss_cons (ps_if (pt_not (pt_val (pe_cal C_is_word (hr.mono (by decide)) (pa_cons (pv 0) pa_nil)))) (pss_one (ps_ret pe_bl)) pss_nil)
      (pss_cons (ps_asg (pv 0) (pg_tup rfl (pgs_cons (pg_name (i := 1) sc_is_lawful.nd rfl (.inl rfl)) (pgs_cons (pg_name (i := 2) sc_is_lawful.nd rfl (.inl rfl)) pgs_nil))))
      (pss_one (ps_ret (pe_or (pe_not (pv 1)) (pe_one (pe_cal C__may_be_marked (hr.mono (by decide)) (pa_cons (pv 2) pa_nil)))))))), ?_⟩
    rcases q with ⟨p, xs, rfl, hp, hk, q⟩ | ⟨nt, q⟩
    · refine ⟨_, rfl, _, rfl, .inl ⟨p, xs, rfl, hp, hk, fun b hb => ⟨_, rfl, ifnb (fun e => ?_) (fun e => ?_)⟩⟩⟩
      · show Q (.bl false) H
        refine q _ _ (Same.refl _) ⟨fun h => Bool.noConfusion h, fun ⟨m, n, e1, e2, _⟩ => ?_⟩
        rw [hb.mpr ⟨m, n, e1, e2⟩] at e; cases e
      obtain ⟨m, n, rfl, hw⟩ := hb.mp e
      refine ⟨_, rfl, p, _, rfl, .of hp, rfl, _, _, rfl, _, _, rfl, rfl, ?_⟩
      refine ⟨_, rfl, m, rfl, !m, rfl, ?_⟩
      cases m with
      | false =>
        show Q (.bl true) H
        exact q _ _ (Same.refl _) ⟨fun _ => ⟨false, n, rfl, hw, fun h => Bool.noConfusion h⟩, fun _ => rfl⟩
      | true =>
        refine ⟨_, rfl, n, rfl, hw.1, fun c H1 s1 hc => q _ _ s1 ?_⟩
        rw [hc]
        constructor
        · intro h
          exact ⟨true, n, rfl, hw, fun _ => h⟩
        · rintro ⟨m', n', e2, _, h⟩
          injection e2 with e3 e2
          injection e2 with e2 _
          cases e2
          cases e3
          exact h rfl
    · refine ⟨_, rfl, _, rfl, .inr ⟨nt, ⟨_, rfl, ?_⟩⟩⟩
      show Q (.bl false) H
      exact q _ (Same.refl _)

def sp_bounds_in (K : PySem.W.Frag) : Sp := fun vs H Q _ => ∃ b : Int, vs = [.int b] ∧ 0 ≤ b ∧ ∀ p H', Same H H' → H p = none → H' p = some (.tup [.int (fFirst b * 2 ^ (fStep b).toNat), .int ((fFirst b + fCnt b) * 2 ^ (fStep b).toNat)]) → Q (.ref p) H'
theorem ok_bounds_in {f : Addr} {fd : FuncData} (F : Fun K "bounds_in" "bounds_in" s_bounds_in f fd) (T : Txt K w mg) (C_field : Cal P w K mg base "field" 1 ["bits", "place"] (sp_field K)) : FnOk P w K mg base CX0 2 f fd ["bits"] (sp_bounds_in K) := by
  obtain ⟨p_COUNT_LESS_ONE, hc_COUNT_LESS_ONE, hs_COUNT_LESS_ONE⟩ := T.c_COUNT_LESS_ONE
  obtain ⟨p_FIRST, hc_FIRST, hs_FIRST⟩ := T.c_FIRST
  obtain ⟨p_STEP, hc_STEP, hs_STEP⟩ := T.c_STEP
  refine F.ok sc_bounds_in (fun vs H Q E h => ?_) (fun cdv A outer s H vs Q E hr h => ?_)
  · obtain ⟨b, rfl, hb, q⟩ := h; rfl
  · obtain ⟨b, rfl, hb, q⟩ := h
    refine ⟨_, (pss_cons (ps_set (i := 1) sc_bounds_in.nd rfl (.inl rfl) (pe_cal C_field (hr.mono (by decide)) (pa_cons (pv 0) (pa_cons (pe_glob (v := .ref p_STEP) (by rfl) hc_STEP rfl) pa_nil))))
      (pss_cons (ps_set (i := 2) sc_bounds_in.nd rfl (.inl rfl) (pe_cal C_field (hr.mono (by decide)) (pa_cons (pv 0) (pa_cons (pe_glob (v := .ref p_FIRST) (by rfl) hc_FIRST rfl) pa_nil))))
      (pss_one (ps_ret (pe_tup (pa_cons (pe_op op_shl (pv 2) (pv 1)) (pa_cons (pe_op op_shl (pe_op op_add (pe_op op_add (pv 2) (pe_cal C_field (hr.mono (by decide)) (pa_cons (pv 0) (pa_cons (pe_glob (v := .ref p_COUNT_LESS_ONE) (by rfl) hc_COUNT_LESS_ONE rfl) pa_nil)))) pe_int) (pv 1)) pa_nil))))))), ?_⟩
    have f := fb b
    refine ⟨_, rfl, b, p_STEP, 28, 4, rfl, hs_STEP _, hb, by decide, by decide, ?_⟩
    refine ⟨_, rfl, b, p_FIRST, 12, 12, rfl, hs_FIRST _, hb, by decide, by decide, ?_⟩
    refine ⟨_, rfl, _, rfl, _, _, rfl, rfl, cpw (z := fFirst b) (s := fStep b) (by omega) (by omega) (by omega) (by omega), ?_⟩
    refine ⟨_, rfl, _, rfl, b, p_COUNT_LESS_ONE, 24, 4, rfl, hs_COUNT_LESS_ONE _, hb, by decide, by decide, _, _, rfl, rfl, _, _, rfl, rfl, _, rfl, _, _, rfl, rfl, cpw (z := fFirst b + (b / 2 ^ 24 % 2 ^ 4) + 1) (s := fStep b) (by unfold fCnt at f; omega) (by unfold fCnt at f; omega) (by omega) (by omega), sz (by simp), fun p hp => ?_⟩
    refine q p _ (same_new hp) hp ?_
    rw [upd_same]
    have e2 : fFirst b + (b / 2 ^ 24 % 2 ^ 4) + 1 = fFirst b + fCnt b := by unfold fCnt; omega
    rw [← e2]
    rfl

def sp_fields_of (K : PySem.W.Frag) : Sp := fun vs H Q _ => ∃ (p : Addr) (v : V) (b : Int), vs = [.ref p] ∧ H p = some (.tup [v, .int b]) ∧ 0 ≤ b ∧ (¬ Tells b → ∀ H', Same H H' → Q .non H') ∧ (Tells b → ∀ q H', Same H H' → H q = none → H' q = some (.tup [.int (fFirst b * 2 ^ (fStep b).toNat), .int ((fFirst b + fCnt b) * 2 ^ (fStep b).toNat), .int (fAt b), .str (rtx (bitp (fRts b))), .int (fKind b)]) → Q (.ref q) H')
theorem ok_fields_of {f : Addr} {fd : FuncData} (F : Fun K "fields_of" "fields_of" s_fields_of f fd) (T : Txt K w mg) (C_field : Cal P w K mg base "field" 1 ["bits", "place"] (sp_field K)) (C_rights_in : Cal P w K mg base "rights_in" 2 ["bits"] (sp_rights_in K)) (C__tell : Cal P w K mg base "_tell" 2 ["bits"] (sp__tell K)) (C_bounds_in : Cal P w K mg base "bounds_in" 2 ["bits"] (sp_bounds_in K)) : FnOk P w K mg base CX0 3 f fd ["word"] (sp_fields_of K) := by
  obtain ⟨p_AT, hc_AT, hs_AT⟩ := T.c_AT
  obtain ⟨p_KIND, hc_KIND, hs_KIND⟩ := T.c_KIND
  refine F.ok sc_fields_of (fun vs H Q E h => ?_) (fun cdv A outer s H vs Q E hr h => ?_)
  · obtain ⟨p, v, b, rfl, hp, hb, q1, q2⟩ := h; rfl
  · obtain ⟨p, v, b, rfl, hp, hb, q1, q2⟩ := h
    refine ⟨_, (pss_cons (ps_set (i := 1) sc_fields_of.nd rfl (.inl rfl) (pe_ix (r := rIxT K) ix_tup (pv 0) pe_int (fun _ _ => rfl)))
      (pss_cons (ps_if (pt_not (pt_val (pe_cal C__tell (hr.mono (by decide)) (pa_cons (pv 1) pa_nil)))) (pss_one (ps_ret pe_non)) pss_nil)
      (pss_cons (ps_asg (pe_cal C_bounds_in (hr.mono (by decide)) (pa_cons (pv 1) pa_nil)) (pg_tup rfl (pgs_cons (pg_name (i := 2) sc_fields_of.nd rfl (.inl rfl)) (pgs_cons (pg_name (i := 3) sc_fields_of.nd rfl (.inl rfl)) pgs_nil))))
      (pss_one (ps_ret (pe_tup (pa_cons (pv 2) (pa_cons (pv 3) (pa_cons (pe_cal C_field (hr.mono (by decide)) (pa_cons (pv 1) (pa_cons (pe_glob (v := .ref p_AT) (by rfl) hc_AT rfl) pa_nil))) (pa_cons (pe_cal C_rights_in (hr.mono (by decide)) (pa_cons (pv 1) pa_nil)) (pa_cons (pe_cal C_field (hr.mono (by decide)) (pa_cons (pv 1) (pa_cons (pe_glob (v := .ref p_KIND) (by rfl) hc_KIND rfl) pa_nil))) pa_nil))))))))))), ?_⟩
    refine ⟨_, rfl, p, _, 1, _, rfl, rfl, .of hp, atI_nat (j := 1) rfl, ?_⟩
    refine ⟨_, rfl, b, rfl, hb, fun c hc => ⟨_, rfl, ifnb (fun e => ?_) (fun e => ?_)⟩⟩
    · show Q .non H
      exact q1 (fun z => by rw [hc.mpr z] at e; cases e) H (Same.refl _)
    refine ⟨_, rfl, b, rfl, hb, fun p1 H0 s0 hp1 h1 => ?_⟩
    refine ⟨p1, _, rfl, .of h1, rfl, _, _, rfl, _, _, rfl, rfl, ?_⟩
    refine ⟨_, rfl, _, rfl, _, rfl, b, p_AT, 0, 12, rfl, hs_AT _, hb, by decide, by decide, _, rfl, b, rfl, hb, fun H1 s1 => ?_⟩
    refine ⟨_, rfl, b, p_KIND, 41, 4, rfl, hs_KIND _, hb, by decide, by decide, sz (by simp), fun q hq => ?_⟩
    refine q2 (hc.mp e) q _ (sameN (s0.trans s1) hq) (Same.free (s0.trans s1) hq) ?_
    rw [upd_same]
    rfl

def sp_is_sealed (K : PySem.W.Frag) : Sp := fun vs H Q _ => ∃ b : Int, vs = [.int b] ∧ 0 ≤ b ∧ ∀ r, (r = true ↔ fKind b ≠ 0) → Q (.bl r) H
theorem ok_is_sealed {f : Addr} {fd : FuncData} (F : Fun K "is_sealed" "is_sealed" s_is_sealed f fd) (T : Txt K w mg) (C_field : Cal P w K mg base "field" 1 ["bits", "place"] (sp_field K)) : FnOk P w K mg base CX0 2 f fd ["bits"] (sp_is_sealed K) := by
  obtain ⟨p_KIND, hc_KIND, hs_KIND⟩ := T.c_KIND
  obtain ⟨t_NOT_SEALED, hc_NOT_SEALED⟩ := T.c_NOT_SEALED
  refine F.ok sc_is_sealed (fun vs H Q E h => ?_) (fun cdv A outer s H vs Q E hr h => ?_)
  · obtain ⟨b, rfl, hb, q⟩ := h; rfl
  · obtain ⟨b, rfl, hb, q⟩ := h
    refine ⟨_, (pss_one (ps_ret (pe_cmpR op_ne (pe_cal C_field (hr.mono (by decide)) (pa_cons (pv 0) (pa_cons (pe_glob (v := .ref p_KIND) (by rfl) hc_KIND rfl) pa_nil))) (pe_glob (v := .int 0) (by rfl) hc_NOT_SEALED ⟨_, rfl⟩) (nomark _)))), ?_⟩
    refine ⟨_, rfl, b, p_KIND, 41, 4, rfl, hs_KIND _, hb, by decide, by decide, rfl, q _ ?_⟩
    rw [Bool.not_eq_true', decide_eq_false_iff_not]
    exact ⟨fun h z => h (congrArg V.int z), fun h z => h (V.int.inj z)⟩

def sp_without_mark (K : PySem.W.Frag) : Sp := fun vs H Q _ => ∃ (p : Addr) (v : V) (b : Int), vs = [.ref p] ∧ SqT K H p [v, .int b] ∧ ∀ q, H q = none → Q (.ref q) (upd H q (.tup [.bl false, .int b]))
theorem ok_without_mark {f : Addr} {fd : FuncData} (F : Fun K "without_mark" "without_mark" s_without_mark f fd) (T : Txt K w mg) : FnOk P w K mg base CX0 1 f fd ["word"] (sp_without_mark K) := by
  refine F.ok sc_without_mark (fun vs H Q E h => ?_) (fun cdv A outer s H vs Q E hr h => ?_)
  · obtain ⟨p, v, b, rfl, hp, q⟩ := h; rfl
  · obtain ⟨p, v, b, rfl, hp, q⟩ := h
    refine ⟨_, (pss_one (ps_ret (pe_tup (pa_cons pe_bl (pa_cons (pe_ix (r := rIxT K) ix_tup (pv 0) pe_int (fun _ _ => rfl)) pa_nil))))), ?_⟩
    refine ⟨_, rfl, p, _, 1, _, rfl, rfl, hp, atI_nat (j := 1) rfl, sz (by simp), fun q2 hq2 => q q2 hq2⟩

def sp__look_at_address (K : PySem.W.Frag) : Sp := fun vs H Q _ => ∃ n : Int, vs = [.int n] ∧ 0 ≤ n ∧ n ≤ 4095 ∧ Q .non H
theorem ok__look_at_address {f : Addr} {fd : FuncData} (F : Fun K "_look_at_address" "_look_at_address" s__look_at_address f fd) (T : Txt K w mg) (C_is_whole : Cal P w K mg base "is_whole" 1 ["thing", "least", "most"] (sp_is_whole K)) : FnOk P w K mg base CX0 2 f fd ["thing"] (sp__look_at_address K) := by
  obtain ⟨t_CELLS, hc_CELLS⟩ := T.c_CELLS
  refine F.ok sc__look_at_address (fun vs H Q E h => ?_) (fun cdv A outer s H vs Q E hr h => ?_)
  · obtain ⟨n, rfl, n0, n1, q⟩ := h; rfl
  · obtain ⟨n, rfl, n0, n1, q⟩ := h
    refine ⟨_, (pss_one (ps_if (pt_not (pt_val (pe_cal C_is_whole (hr.mono (by decide)) (pa_cons (pv 0) (pa_cons pe_int (pa_cons (pe_op op_sub (pe_glob (v := .int 4096) (by rfl) hc_CELLS ⟨_, rfl⟩) pe_int) pa_nil)))))) (pss_one ps_never) pss_nil)), ?_⟩
    refine ⟨_, rfl, _, _, rfl, rfl, .int n, 0, _, rfl, .int n, fun b hb2 => ⟨_, rfl, ?_⟩⟩
    have e : b = true := hb2.mpr ⟨n, rfl, n0, by omega⟩
    subst e
    exact q

def sp__reached (K : PySem.W.Frag) : Sp := fun vs H Q E => ∃ (w : Addr) (m : Bool) (b off : Int) (c : Nat), vs = [.ref w, .int off, .str (one c)] ∧ Wd H w m b ∧ -8 ≤ off ∧ off ≤ 15 ∧ (dueS m b off c = Str.ofString "" → 0 ≤ fAt b + off → fAt b + off < 4096 → ∀ H', Same H H' → Q (.int (fAt b + off)) H') ∧ (dueS m b off c ≠ Str.ofString "" → LetsV K "Fault" "word" (.str (dueS m b off c)) H E)
theorem ok__reached {f : Addr} {fd : FuncData} (F : Fun K "_reached" "_reached" s__reached f fd) (T : Txt K w mg) (C_is_whole : Cal P w K mg base "is_whole" 1 ["thing", "least", "most"] (sp_is_whole K)) (C_fields_of : Cal P w K mg base "fields_of" 3 ["word"] (sp_fields_of K)) (C_is_sealed : Cal P w K mg base "is_sealed" 2 ["bits"] (sp_is_sealed K)) (R_Fault : ErrK P w K mg base "Fault" "word") (R_NoOffset : ErrK P w K mg base "NoOffset" "text") : FnOk P w K mg base (L2.CX P w) 4 f fd ["word", "offset", "right"] (sp__reached K) := by
  obtain ⟨t_LEAST_OFFSET, hc_LEAST_OFFSET⟩ := T.c_LEAST_OFFSET
  obtain ⟨t_TOP_OFFSET, hc_TOP_OFFSET⟩ := T.c_TOP_OFFSET
  refine F.okX sc__reached (fun vs H Q E h => ?_) (fun cdv A outer s H vs Q E hr h => ?_)
  · obtain ⟨w, m, b, off, c, rfl, hw, o0, o1, q1, q2⟩ := h; rfl
  · obtain ⟨w, m, b, off, c, rfl, hw, o0, o1, q1, q2⟩ := h
    refine ⟨_, (pss_cons (ps_if (pt_not (pt_val (pe_cal C_is_whole (hr.mono (by decide)) (pa_cons (pv 1) (pa_cons (pe_glob (v := .int (-8)) (by rfl) hc_LEAST_OFFSET ⟨_, rfl⟩) (pa_cons (pe_glob (v := .int 15) (by rfl) hc_TOP_OFFSET ⟨_, rfl⟩) pa_nil)))))) (pss_one (ps_raise rfl (takes_of rfl rfl rfl rfl) (by exact (pmk_err R_NoOffset (hr.mono (by decide)) pe_str)))) pss_nil)
      (pss_cons (ps_if (pt_not (pt_val (pe_ix (r := rIxT K) ix_tup (pv 0) pe_int (fun _ _ => rfl)))) (pss_one (ps_raise rfl (takes_of rfl rfl rfl rfl) (by exact (pmk_err R_Fault (hr.mono (by decide)) pe_str)))) pss_nil)
      (pss_cons (ps_if (pt_val (pe_cal C_is_sealed (hr.mono (by decide)) (pa_cons (pe_ix (r := rIxT K) ix_tup (pv 0) pe_int (fun _ _ => rfl)) pa_nil))) (pss_one (ps_raise rfl (takes_of rfl rfl rfl rfl) (by exact (pmk_err R_Fault (hr.mono (by decide)) pe_str)))) pss_nil)
      (pss_cons (ps_asg (pe_cal C_fields_of (hr.mono (by decide)) (pa_cons (pv 0) pa_nil)) (pg_tup rfl (pgs_cons (pg_name (i := 3) sc__reached.nd rfl (.inl rfl)) (pgs_cons (pg_name (i := 4) sc__reached.nd rfl (.inl rfl)) (pgs_cons (pg_name (i := 5) sc__reached.nd rfl (.inl rfl)) (pgs_cons (pg_name (i := 6) sc__reached.nd rfl (.inl rfl)) (pgs_cons (pg_name (i := 7) sc__reached.nd rfl (.inl rfl)) pgs_nil)))))))
      (pss_cons (ps_if (pt_cmpR op_notIn_sign (pv 2) (pv 6) (by rfl)) (pss_one (ps_raise rfl (takes_of rfl rfl rfl rfl) (by exact (pmk_err R_Fault (hr.mono (by decide)) pe_str)))) pss_nil)
      (pss_cons (ps_if (pt_not (pt_chain op_le op_lt (pv 3) (pe_op op_add (pv 5) (pv 1)) (pv 4))) (pss_one (ps_raise rfl (takes_of rfl rfl rfl rfl) (by exact (pmk_err R_Fault (hr.mono (by decide)) pe_str)))) pss_nil)
      (PSs.nox (pss_one (ps_ret (pe_op op_add (pv 5) (pv 1))))))))))), ?_⟩
    refine ⟨_, rfl, .int off, -8, 15, rfl, .int off, fun b1 hb1 => ⟨_, rfl, ?_⟩⟩
    have e1 : b1 = true := hb1.mpr ⟨off, rfl, o0, o1⟩
    subst e1
    have bad : ∀ z, dueS m b off c = Str.ofString z → Str.ofString z ≠ Str.ofString "" → ∀ (C d : Addr) (H1 : Hp), PySem.W.nsIn K mainGlobals "Fault" = some (some (.ref C)) → Same H H1 → H1 d = none → E (.ref C) (some d) (upd H1 d (.xd [("word", .str (Str.ofString z))])) := fun z e nz C d H1 hC s hd => by
      have x := q2 (by rw [e]; exact nz) C d H1 hC s hd
      rw [e] at x
      exact x
    cases m with
    | false =>
      refine ⟨_, rfl, w, _, 0, _, rfl, rfl, .of hw.at', atI_nat (j := 0) rfl, false, rfl, ?_⟩
      exact fun C d hC hd => bad "mark" (by unfold dueS; rw [if_pos rfl]) (by decide +kernel) C d H hC (Same.refl _) hd
    | true =>
    refine ⟨_, rfl, w, _, 0, _, rfl, rfl, .of hw.at', atI_nat (j := 0) rfl, true, rfl, ?_⟩
    refine ⟨_, rfl, w, _, 1, _, rfl, rfl, .of hw.at', atI_nat (j := 1) rfl, b, rfl, hw.w.1, fun r1 hr1 => ⟨_, rfl, ifb (fun e2 => ?_) (fun e2 => ?_)⟩⟩
    · have k0 := hr1.mp e2
      exact fun C d hC hd => bad "seal" (by unfold dueS; rw [if_neg (by decide), if_pos k0]) (by decide +kernel) C d H hC (Same.refl _) hd
    have k0 : ¬ fKind b ≠ 0 := fun y => by rw [hr1.mpr y] at e2; cases e2
    refine ⟨_, rfl, w, _, b, rfl, hw.at', hw.w.1, fun nt => absurd (hw.law rfl).1 nt, fun ht f1 H1 s1 hf1 hf12 => ?_⟩
    refine ⟨f1, _, rfl, .of hf12, rfl, _, _, rfl, _, _, rfl, _, _, rfl, _, _, rfl, _, _, rfl, rfl, ?_⟩
    refine ⟨_, rfl, _, rfl, c, _, rfl, rfl, _, rfl, ifnb (fun e => ?_) (fun e => ?_)⟩
    · exact fun C d hC hd => bad "right" (by unfold dueS; rw [if_neg (by decide), if_neg k0, if_pos (show inR c b = false from e)]) (by decide +kernel) C d H1 hC s1 hd
    have ne : ¬ inR c b = false := fun y => by rw [show inR c b = true from e] at y; cases y
    refine ⟨_, rfl, _, rfl, _, rfl, _, _, rfl, rfl, _, _, rfl, rfl, _, rfl, ifd (fun h1 => ?_) (fun h1 => ?_)⟩
    · refine ⟨_, rfl, _, _, rfl, rfl, _, rfl, ifnd (fun h2 => ?_) (fun h2 => ?_)⟩
      · exact fun C d hC hd => bad "bounds" (by unfold dueS; rw [if_neg (by decide), if_neg k0, if_neg ne, if_neg (fun y => h2 y.2)]) (by decide +kernel) C d H1 hC s1 hd
      · refine ⟨_, rfl, _, rfl, _, _, rfl, rfl, ?_⟩
        have tl : 0 ≤ fFirst b * 2 ^ (fStep b).toNat := Int.mul_nonneg (fb b).2.2.2.2.1 (Int.le_of_lt (pow_pos2 _))
        have th := ht.2.2
        exact q1 (by unfold dueS; rw [if_neg (by decide), if_neg k0, if_neg ne, if_pos ⟨h1, h2⟩]) (by omega) (by omega) H1 s1
    · refine ⟨_, rfl, ?_⟩
      exact fun C d hC hd => bad "bounds" (by unfold dueS; rw [if_neg (by decide), if_neg k0, if_neg ne, if_neg (fun y => h1 y.1)]) (by decide +kernel) C d H1 hC s1 hd

def sp__look_at_stored (K : PySem.W.Frag) : Sp := fun vs H Q E => ∃ (b b2 : Int), vs = [.str (rtx (bitp (fRts b))), .str (rtx (bitp (fRts b2)))] ∧ (inR 115 b = true → (inR 102 b2 = true ∨ inR 110 b = true) → Q .non H) ∧ (inR 115 b = false → LetsV K "Fault" "word" (.str (Str.ofString "store")) H E) ∧ (inR 115 b = true → inR 102 b2 = false → inR 110 b = false → LetsV K "Fault" "word" (.str (Str.ofString "near")) H E)
theorem ok__look_at_stored {f : Addr} {fd : FuncData} (F : Fun K "_look_at_stored" "_look_at_stored" s__look_at_stored f fd) (T : Txt K w mg) (R_Fault : ErrK P w K mg base "Fault" "word") : FnOk P w K mg base (L2.CX P w) 3 f fd ["rights", "stored_rights"] (sp__look_at_stored K) := by
  refine F.okX sc__look_at_stored (fun vs H Q E h => ?_) (fun cdv A outer s H vs Q E hr h => ?_)
  · obtain ⟨b, b2, rfl, q1, q2, q3⟩ := h; rfl
  · obtain ⟨b, b2, rfl, q1, q2, q3⟩ := h
    refine ⟨_, (pss_cons (ps_if (pt_cmpR op_notIn_sign pe_str (pv 0) (by rfl)) (pss_one (ps_raise rfl (takes_of rfl rfl rfl rfl) (by exact (pmk_err R_Fault (hr.mono (by decide)) pe_str)))) pss_nil)
      (pss_one (ps_if (PW.pt (pw_and (pt_cmpR op_notIn_sign pe_str (pv 1) (by rfl)) (pw_and1 (pt_cmpR op_notIn_sign pe_str (pv 0) (by rfl))))) (pss_one (ps_raise rfl (takes_of rfl rfl rfl rfl) (by exact (pmk_err R_Fault (hr.mono (by decide)) pe_str)))) pss_nil))), ?_⟩
    refine ⟨_, rfl, 115, _, rfl, rfl, _, rfl, ifnb (fun e => ?_) (fun e => ?_)⟩
    · exact fun C d hC hd => q2 e C d H hC (Same.refl _) hd
    refine ⟨_, rfl, 102, _, rfl, rfl, _, rfl, ifnb (fun e2 => ?_) (fun e2 => q1 e (.inl e2))⟩
    refine ⟨_, rfl, 110, _, rfl, rfl, _, rfl, ifnb (fun e3 => ?_) (fun e3 => q1 e (.inr e3))⟩
    exact fun C d hC hd => q3 e e2 e3 C d H hC (Same.refl _) hd

def sp_Cells___init__ (K : PySem.W.Frag) : Sp := fun vs H Q _ => ∃ (a C dx : Addr), vs = [.ref a] ∧ PySem.W.nsIn K mainGlobals "Cells" = some (some (.ref C)) ∧ H a = some (.ins C dx []) ∧ ∀ L ws H1, Same H H1 → H L = none → Cel K (upd H1 a (.ins C dx [("_words", .ref L)])) a L ws (fun _ => (false, 0)) → Q .non (upd H1 a (.ins C dx [("_words", .ref L)]))
theorem ok_Cells___init__ {f : Addr} {fd : FuncData} (F : Fun K "__init__" "Cells.__init__" s_Cells___init__ f fd) (T : Txt K w mg) : FnOk P w K mg base CX0 1 f fd ["self"] (sp_Cells___init__ K) := by
  obtain ⟨t_CELLS, hc_CELLS⟩ := T.c_CELLS
  obtain ⟨p_EMPTY, hc_EMPTY, hs_EMPTY⟩ := T.c_EMPTY
  refine F.ok sc_Cells___init__ (fun vs H Q E h => ?_) (fun cdv A outer s H vs Q E hr h => ?_)
  · obtain ⟨a, C, dx, rfl, hC, ha, q⟩ := h; rfl
  · obtain ⟨a, C, dx, rfl, hC, ha, q⟩ := h
    refine ⟨_, (pss_one (ps_fld (pv 0) (pe_op op_rep (pe_lst (pa_cons (pe_glob (v := .ref p_EMPTY) (by rfl) hc_EMPTY rfl) pa_nil)) (pe_glob (v := .int 4096) (by rfl) hc_CELLS ⟨_, rfl⟩)) (by rfl))), ?_⟩
    refine ⟨sz (by simp), fun L0 hL0 => ?_⟩
    refine ⟨L0, 4096, _, rfl, rfl, upd_same, by decide, by decide, by rw [sizeLine_eq]; exact Nat.le_of_ble_eq_true rfl, fun L hL => ?_⟩
    have s1 : Same H (upd (upd H L0 (.lst [.ref p_EMPTY])) L (.lst (List.replicate (Int.toNat 4096) [V.ref p_EMPTY]).flatten)) := sameN (same_new hL0) hL
    have hL' : H L = none := by
      cases e : H L with
      | none => rfl
      | some o => rw [same_new (o := .lst [.ref p_EMPTY]) hL0 L o e] at hL; cases hL
    refine ⟨_, rfl, a, C, dx, [], rfl, s1 _ _ ha, T.cl_Cells _ hC, T.nf_Cells__words _ hC, by decide, ?_⟩
    have nL : L ≠ a := fun z => by subst z; rw [ha] at hL'; cases hL'
    refine q L _ _ s1 hL' ⟨⟨C, dx, hC, upd_same⟩, by rw [upd_ne nL]; exact upd_same, ?_, fun i hi => ⟨p_EMPTY, ?_, hs_EMPTY _, by unfold W45; decide, fun z => by cases z⟩⟩
    · rw [rep_flat, List.length_replicate]; rfl
    · rw [rep_flat, List.getElem?_replicate, if_pos (show i < Int.toNat 4096 from hi)]

def sp_Cells_store (K : PySem.W.Frag) : Sp := fun vs H Q E => ∃ c L ws f w m b off q2 m2 b2, vs = [.ref c, .ref w, .int off, .ref q2] ∧ Cel K H c L ws f ∧ Wd H w m b ∧ Wd H q2 m2 b2 ∧ -8 ≤ off ∧ off ≤ 15 ∧ (storeS m b off m2 b2 = Str.ofString "" → ∀ i : Nat, (i : Int) = fAt b + off → i < 4096 → ∀ H', Same H H' → Q .non (upd H' L (.lst (ws.set i (.ref q2))))) ∧ (storeS m b off m2 b2 ≠ Str.ofString "" → LetsV K "Fault" "word" (.str (storeS m b off m2 b2)) H E)
theorem ok_Cells_store {f : Addr} {fd : FuncData} (F : Fun K "store" "Cells.store" s_Cells_store f fd) (T : Txt K w mg) (C_rights_in : Cal P w K mg base "rights_in" 2 ["bits"] (sp_rights_in K)) (C__reached : CalX P w K mg base "_reached" 4 ["word", "offset", "right"] (sp__reached K)) (C__look_at_stored : CalX P w K mg base "_look_at_stored" 3 ["rights", "stored_rights"] (sp__look_at_stored K)) : FnOk P w K mg base (L2.CX P w) 5 f fd ["self", "word", "offset", "what"] (sp_Cells_store K) := by
  refine F.okX sc_Cells_store (fun vs H Q E h => ?_) (fun cdv A outer s H vs Q E hr h => ?_)
  · obtain ⟨c, L, ws, f, w, m, b, off, q0, m2, b2, rfl, hc, hw, hw2, o0, o1, q1, q2⟩ := h; rfl
  · obtain ⟨c, L, ws, f, w, m, b, off, q0, m2, b2, rfl, hc, hw, hw2, o0, o1, q1, q2⟩ := h
    refine ⟨_, (pss_cons (ps_set (i := 4) sc_Cells_store.nd rfl (.inl rfl) (pe_calX C__reached (hr.mono (by decide)) (takes_of rfl rfl rfl rfl) (by exact (pa_cons (pv 1) (pa_cons (pv 2) (pa_cons pe_str pa_nil))))))
      (pss_cons (ps_if (pt_val (pe_ix (r := rIxT K) ix_tup (pv 3) pe_int (fun _ _ => rfl))) (pss_one (ps_expr (pe_calX C__look_at_stored (hr.mono (by decide)) (takes_of rfl rfl rfl rfl) (by exact (pa_cons (pe_cal C_rights_in (hr.mono (by decide)) (pa_cons (pe_ix (r := rIxT K) ix_tup (pv 1) pe_int (fun _ _ => rfl)) pa_nil)) (pa_cons (pe_cal C_rights_in (hr.mono (by decide)) (pa_cons (pe_ix (r := rIxT K) ix_tup (pv 3) pe_int (fun _ _ => rfl)) pa_nil)) pa_nil)))))) pss_nil)
      (PSs.nox (pss_one (ps_asg (pv 3) (pg_sub (pe_fld (pv 0) (by rfl)) (pv 4) set_list)))))), ?_⟩
    obtain ⟨⟨C, dx, hC, hi⟩, hl, hn, ha⟩ := id hc
    have st : dueS m b off 119 = Str.ofString "" → storeS m b off m2 b2 = (if m2 = false then Str.ofString "" else if inR 115 b = false then Str.ofString "store" else if inR 102 b2 = false ∧ inR 110 b = false then Str.ofString "near" else Str.ofString "") := fun e => by
      unfold storeS
      rw [if_neg (fun y => y e)]
    refine ⟨_, rfl, _, rfl, w, m, b, off, 119, rfl, hw, o0, o1, fun ok l0 l1 H1 s1 => ?_, fun bad => by
      have e : storeS m b off m2 b2 = dueS m b off 119 := by unfold storeS; rw [if_pos bad]
      rw [e] at q2
      exact q2 bad⟩
    have st := st ok
    obtain ⟨k, hk⟩ := Int.eq_ofNat_of_zero_le l0
    cases m2 with
    | false =>
      refine ⟨_, rfl, q0, _, 0, _, rfl, rfl, .of (s1 _ _ hw2.at'), atI_nat (j := 0) rfl, false, rfl, ?_⟩
      refine ⟨_, rfl, _, rfl, c, C, dx, _, .ref L, rfl, s1 _ _ hi, T.cl_Cells _ hC, T.nf_Cells__words _ hC, rfl, _, rfl, L, ws, (k : Int), k, rfl, congrArg V.int hk, s1 _ _ hl, ixZ (by omega), ?_⟩
      exact q1 (by rw [st, if_pos rfl]) k hk.symm (by omega) _ s1
    | true =>
      refine ⟨_, rfl, q0, _, 0, _, rfl, rfl, .of (s1 _ _ hw2.at'), atI_nat (j := 0) rfl, true, rfl, ?_⟩
      rw [if_neg (by decide)] at st
      refine ⟨_, rfl, w, _, 1, _, rfl, rfl, .of (s1 _ _ hw.at'), atI_nat (j := 1) rfl, b, rfl, hw.w.1, fun H2 s2 => ⟨_, rfl, q0, _, 1, _, rfl, rfl, .of (s2 _ _ (s1 _ _ hw2.at')), atI_nat (j := 1) rfl, b2, rfl, hw2.w.1, fun H3 s3 => ?_⟩⟩
      have S3 := (s1.trans s2).trans s3
      refine ⟨b, b2, rfl, fun e1 e2 => ?_, fun e1 => ?_, fun e1 e2 e3 => ?_⟩
      · have nil : storeS m b off true b2 = Str.ofString "" := by
          rw [st, if_neg (fun y => by rw [e1] at y; cases y), if_neg (fun y => e2.elim (fun z => absurd (z.symm.trans y.1) (by decide)) (fun z => absurd (z.symm.trans y.2) (by decide)))]
        refine ⟨_, rfl, _, rfl, c, C, dx, _, .ref L, rfl, S3 _ _ hi, T.cl_Cells _ hC, T.nf_Cells__words _ hC, rfl, _, rfl, L, ws, (k : Int), k, rfl, congrArg V.int hk, S3 _ _ hl, ixZ (by omega), ?_⟩
        exact q1 nil k hk.symm (by omega) _ S3
      · rw [if_pos e1] at st
        rw [st] at q2
        exact (q2 (by decide +kernel)).same S3
      · rw [if_neg (fun y => by rw [e1] at y; cases y), if_pos ⟨e2, e3⟩] at st
        rw [st] at q2
        exact (q2 (by decide +kernel)).same S3

def sp_Cells_poke (K : PySem.W.Frag) : Sp := fun vs H Q E => ∃ c L ws f w m b off n, vs = [.ref c, .ref w, .int off, .int n] ∧ Cel K H c L ws f ∧ Wd H w m b ∧ -8 ≤ off ∧ off ≤ 15 ∧ 0 ≤ n ∧ n < 2 ^ 62 ∧ (dueS m b off 119 = Str.ofString "" → ∀ i : Nat, (i : Int) = fAt b + off → i < 4096 → ∀ q H', Same H H' → Wd H' q false ((f i).2 - (f i).2 % 2 ^ 28 + n % 2 ^ 28) → Q .non (upd H' L (.lst (ws.set i (.ref q))))) ∧ (dueS m b off 119 ≠ Str.ofString "" → LetsV K "Fault" "word" (.str (dueS m b off 119)) H E)
theorem ok_Cells_poke {f : Addr} {fd : FuncData} (F : Fun K "poke" "Cells.poke" s_Cells_poke f fd) (T : Txt K w mg) (C__reached : CalX P w K mg base "_reached" 4 ["word", "offset", "right"] (sp__reached K)) : FnOk P w K mg base (L2.CX P w) 5 f fd ["self", "word", "offset", "number"] (sp_Cells_poke K) := by
  obtain ⟨t_POKED, hc_POKED⟩ := T.c_POKED
  refine F.okX sc_Cells_poke (fun vs H Q E h => ?_) (fun cdv A outer s H vs Q E hr h => ?_)
  · obtain ⟨c, L, ws, f, w, m, b, off, n, rfl, hc, hw, o0, o1, n0, n1, q1, q2⟩ := h; rfl
  · obtain ⟨c, L, ws, f, w, m, b, off, n, rfl, hc, hw, o0, o1, n0, n1, q1, q2⟩ := h
    refine ⟨_, (pss_cons (ps_set (i := 4) sc_Cells_poke.nd rfl (.inl rfl) (pe_calX C__reached (hr.mono (by decide)) (takes_of rfl rfl rfl rfl) (by exact (pa_cons (pv 1) (pa_cons (pv 2) (pa_cons pe_str pa_nil))))))
      (PSs.nox (pss_cons (ps_set (i := 5) sc_Cells_poke.nd rfl (.inl rfl) (pe_ix (r := rIxT K) ix_tup (pe_ix (r := rIxL K) ix_list (pe_fld (pv 0) (by rfl)) (pv 4) (fun _ _ => rfl)) pe_int (fun _ _ => rfl)))
      (pss_one (ps_asg (pe_tup (pa_cons pe_bl (pa_cons (pe_op op_add (pe_op op_sub (pv 5) (pe_op op_mod (pv 5) (pe_glob (v := .int 268435456) (by rfl) hc_POKED ⟨_, rfl⟩))) (pe_op op_mod (pv 3) (pe_glob (v := .int 268435456) (by rfl) hc_POKED ⟨_, rfl⟩))) pa_nil))) (pg_sub (pe_fld (pv 0) (by rfl)) (pv 4) set_list)))))), ?_⟩
    obtain ⟨⟨C, dx, hC, hi⟩, hl, hn, ha⟩ := id hc
    refine ⟨_, rfl, _, rfl, w, m, b, off, 119, rfl, hw, o0, o1, fun ok l0 l1 H1 s1 => ?_, fun bad => q2 bad⟩
    obtain ⟨k, hk⟩ := Int.eq_ofNat_of_zero_le l0
    obtain ⟨q3, e1, w1⟩ := ha k (by omega)
    have w1' := w1.same s1
    refine ⟨_, rfl, c, C, dx, _, .ref L, rfl, s1 _ _ hi, T.cl_Cells _ hC, T.nf_Cells__words _ hC, rfl, ?_⟩
    refine ⟨_, rfl, L, _, (k : Int), _, rfl, congrArg V.int hk, .inl (.of (s1 _ _ hl)), atI_nat e1, ?_⟩
    refine ⟨q3, _, 1, _, rfl, rfl, w1'.at', atI_nat (j := 1) rfl, ?_⟩
    refine ⟨_, rfl, _, rfl, _, _, rfl, rfl, (by show (0 : Int) < _; decide), _, _, rfl, rfl, _, rfl, _, _, rfl, rfl, (by show (0 : Int) < _; decide), _, _, rfl, rfl, sz (by simp), fun q4 hq4 => ?_⟩
    have s4 := s1.trans (same_new (o := .tup [.bl false, .int ((f k).2 - (f k).2 % 268435456 + n % 268435456)]) hq4)
    have w45 := w1.w
    refine ⟨_, rfl, c, C, dx, _, .ref L, rfl, s4 _ _ hi, T.cl_Cells _ hC, T.nf_Cells__words _ hC, rfl, _, rfl, L, ws, (k : Int), k, rfl, congrArg V.int hk, s4 _ _ hl, ixZ (by omega), ?_⟩
    simp only [show (2 : Int) ^ 28 = 268435456 from by decide] at q1
    exact q1 ok k hk.symm (by omega) q4 _ s4 ⟨upd_same, by unfold W45 at w45 ⊢; omega, fun z => by cases z⟩

def sp_Cells_lay (K : PySem.W.Frag) : Sp := fun vs H Q _ => ∃ c L ws f w m b n, vs = [.ref c, .int n, .ref w] ∧ Cel K H c L ws f ∧ Wd H w m b ∧ 0 ≤ n ∧ n ≤ 4095 ∧ ∀ H', Same H H' → Q .non (upd H' L (.lst (ws.set n.toNat (.ref w))))
theorem ok_Cells_lay {f : Addr} {fd : FuncData} (F : Fun K "lay" "Cells.lay" s_Cells_lay f fd) (T : Txt K w mg) (C_is_lawful : Cal P w K mg base "is_lawful" 4 ["thing"] (sp_is_lawful K)) (C__look_at_address : Cal P w K mg base "_look_at_address" 2 ["thing"] (sp__look_at_address K)) : FnOk P w K mg base CX0 5 f fd ["self", "address", "word"] (sp_Cells_lay K) := by
  refine F.ok sc_Cells_lay (fun vs H Q E h => ?_) (fun cdv A outer s H vs Q E hr h => ?_)
  · obtain ⟨c, L, ws, f, w, m, b, n, rfl, hc, hw, n0, n1, q⟩ := h; rfl
  · obtain ⟨c, L, ws, f, w, m, b, n, rfl, hc, hw, n0, n1, q⟩ := h
    refine ⟨_, (pss_cons (ps_expr (pe_cal C__look_at_address (hr.mono (by decide)) (pa_cons (pv 1) pa_nil)))
      (pss_cons (ps_if (pt_not (pt_val (pe_cal C_is_lawful (hr.mono (by decide)) (pa_cons (pv 2) pa_nil)))) (pss_one ps_never) pss_nil)
      (pss_one (ps_asg (pv 2) (pg_sub (pe_fld (pv 0) (by rfl)) (pv 1) set_list))))), ?_⟩
    obtain ⟨⟨C, dx, hC, hi⟩, hl, hn, ha⟩ := id hc
    obtain ⟨k, rfl⟩ := Int.eq_ofNat_of_zero_le n0
    refine ⟨_, rfl, _, rfl, n0, n1, ?_⟩
    refine ⟨_, rfl, _, rfl, .inl ⟨w, _, rfl, hw.at', fun x hx => ?_, fun r H1 s1 hr => ⟨_, rfl, ?_⟩⟩⟩
    · simp only [List.mem_cons, List.not_mem_nil, or_false] at hx
      rcases hx with rfl | rfl
      · exact .bl _
      · exact .int _
    have e : r = true := hr.mpr ⟨m, b, rfl, hw.w, hw.law⟩
    subst e
    refine ⟨_, rfl, _, rfl, c, C, dx, _, .ref L, rfl, s1 _ _ hi, T.cl_Cells _ hC, T.nf_Cells__words _ hC, rfl, _, rfl, L, ws, (k : Int), k, rfl, rfl, s1 _ _ hl, ixZ (by omega), ?_⟩
    exact q _ s1

def sp_Cells_cell (K : PySem.W.Frag) : Sp := fun vs H Q _ => ∃ c L ws f n, vs = [.ref c, .int n] ∧ Cel K H c L ws f ∧ 0 ≤ n ∧ n ≤ 4095 ∧ ∀ q, ws[n.toNat]? = some (.ref q) → Wk K H q (f n.toNat).1 (f n.toNat).2 → Q (.ref q) H
theorem ok_Cells_cell {f : Addr} {fd : FuncData} (F : Fun K "cell" "Cells.cell" s_Cells_cell f fd) (T : Txt K w mg) (C__look_at_address : Cal P w K mg base "_look_at_address" 2 ["thing"] (sp__look_at_address K)) : FnOk P w K mg base CX0 3 f fd ["self", "address"] (sp_Cells_cell K) := by
  refine F.ok sc_Cells_cell (fun vs H Q E h => ?_) (fun cdv A outer s H vs Q E hr h => ?_)
  · obtain ⟨c, L, ws, f, n, rfl, hc, n0, n1, q⟩ := h; rfl
  · obtain ⟨c, L, ws, f, n, rfl, hc, n0, n1, q⟩ := h
    refine ⟨_, (pss_cons (ps_expr (pe_cal C__look_at_address (hr.mono (by decide)) (pa_cons (pv 1) pa_nil)))
      (pss_one (ps_ret (pe_ix (r := rIxL K) ix_list (pe_fld (pv 0) (by rfl)) (pv 1) (fun _ _ => rfl))))), ?_⟩
    obtain ⟨⟨C, dx, hC, hi⟩, hl, hn, ha⟩ := id hc
    obtain ⟨k, rfl⟩ := Int.eq_ofNat_of_zero_le n0
    refine ⟨_, rfl, _, rfl, n0, n1, ?_⟩
    refine ⟨_, rfl, c, C, dx, _, .ref L, rfl, hi, T.cl_Cells _ hC, T.nf_Cells__words _ hC, rfl, ?_⟩
    obtain ⟨q1, e1, w1⟩ := ha k (by omega)
    exact ⟨_, rfl, L, _, (k : Int), _, rfl, rfl, .inl (.of hl), atI_nat e1, q q1 e1 w1⟩

def sp_Cells_marked (K : PySem.W.Frag) : Sp := fun vs H Q _ => ∃ c L ws f, vs = [.ref c, .int 0, .int 4096] ∧ Cel K H c L ws f ∧ ∀ q H', Same H H' → H q = none → H' q = some (.lst (((List.range 4096).filter fun (i : Nat) => (f i).1).map fun (i : Nat) => V.int (i : Int))) → Q (.ref q) H'
theorem ok_Cells_marked {f : Addr} {fd : FuncData} (F : FunD K "marked" "Cells.marked" (defArgs s_Cells_marked) (defBody s_Cells_marked) (defScope s_Cells_marked) [.int 0, .int 4096] [] f fd) (T : Txt K w mg) (C_look_at_bounds : Cal P w K mg base "look_at_bounds" 3 ["low", "high"] (sp_look_at_bounds K)) : FnOk P w K mg base CX0 4 f fd ["self", "low", "high"] (sp_Cells_marked K) := by
  refine fun_okD F sc_Cells_marked (fun vs H Q E h => ?_) (fun cdv A outer s H vs Q E hr h => ?_)
  · obtain ⟨c, L, ws, f, rfl, hc, q⟩ := h; rfl
  · obtain ⟨c, L, ws, f, rfl, hc, q⟩ := h
    refine ⟨_, (pss_cons (ps_expr (pe_cal C_look_at_bounds (hr.mono (by decide)) (pa_cons (pv 1) (pa_cons (pv 2) pa_nil))))
      (pss_one (ps_ret (pe_lc (own := [("address", 3)]) rfl sc_Cells_marked.nd (pi_range2 (by rfl) T.z_range (pa_cons (pv 1) (pa_cons (pv 2) pa_nil))) (blkOk_by (own := [("address", 3)]) (N := ["self", "low", "high", "address"]) (sc := defScope s_Cells_marked) (by decide +kernel)) (fun _ _ _ _ _ => (pg_name (i := 3) sc_Cells_marked.nd rfl (.inl rfl))) (fun _ _ _ _ _ => (pts_one (pt_val (pe_ix (r := rIxT K) ix_tup (pe_ix (r := rIxL K) ix_list (pe_fldK (K := K) (pv 0)) (pv 3) (fun _ _ => rfl)) pe_int (fun _ _ => rfl))))) (fun _ _ _ _ _ => (pv 3)))))), ?_⟩
    obtain ⟨⟨C, dx, hC, hi⟩, hl, hn, ha⟩ := id hc
    refine ⟨_, rfl, _, rfl, 0, 4096, rfl, ⟨by decide, by decide, by decide⟩, ?_⟩
    refine ⟨_, rfl, _, rfl, 0, 4096, rfl, ⟨by decide, by decide, by decide, by decide⟩, fun D hD => lc_gen (walk_range (lo := 0) (n := (4096 - 0 : Int).toNat)) (fun i => (f i).1) (fun i => .int (0 + (i : Int))) hD (by rw [sizeLine_eq]; exact Nat.le_of_ble_eq_true rfl) (fun _ _ => trivial) ?_ ?_⟩
    · rintro i x G G' hi4 sG ⟨rfl, rfl⟩ k m hk hm
      have hi4 : i < 4096 := hi4
      obtain ⟨q1, e1, w1⟩ := ha i hi4
      refine ⟨rfl, ?_⟩
      refine ⟨_, rfl, c, C, dx, _, .ref L, rfl, sG _ _ hi, T.cl_Cells _ hC, T.nf_Cells__words _ hC, rfl, _, rfl, L, ws, (i : Int), _, rfl, congrArg V.int (Int.zero_add _), .inl (.of (sG _ _ hl)), atI_nat e1, q1, _, 0, _, rfl, rfl, (w1.same sG).at', atI_nat (j := 0) rfl, (f i).1, rfl, ifb (fun e => ⟨_, rfl, hk e _ (Same.refl _)⟩) (fun e => hm e _ (Same.refl _))⟩
    · intro G sG hG
      refine q D G sG hD ?_
      rw [hG]
      simp only [Int.zero_add]
      rfl

def sp__law_take (K : PySem.W.Frag) : Sp := fun vs H Q _ => ∃ (a : Addr) (x y m : Int), vs = [.ref a, .int m] ∧ Pool H a x y ∧ 0 < m ∧ m < 4611686018427387904 ∧ ∀ r x1 y1 H', 0 ≤ r → r < m → But a H H' → Pool H' a x1 y1 → Q (.int r) H'
theorem ok__law_take {f : Addr} {fd : FuncData} (F : Fun K "_law_take" "_law_take" s__law_take f fd) (T : Txt K w mg) : FnOk P w K mg base CX0 1 f fd ["_law_pool_here", "_law_many"] (sp__law_take K) := by
  refine F.ok sc__law_take (fun vs H Q E h => ?_) (fun cdv A outer s H vs Q E hr h => ?_)
  · obtain ⟨a, x, y, m, rfl, hp, hm, hm2, q⟩ := h; rfl
  · obtain ⟨a, x, y, m, rfl, hp, hm, hm2, q⟩ := h
    refine ⟨_, (pss_cons (ps_if (pt_cmpR op_gt (pe_ix (r := rIxL K) ix_list (pv 0) pe_int (fun _ _ => rfl)) pe_int (nomark _)) (pss_cons (ps_set (i := 2) sc__law_take.nd rfl (.inl rfl) (pe_op op_mod (pe_ix (r := rIxL K) ix_list (pv 0) pe_int (fun _ _ => rfl)) (pv 1)))
      (pss_cons (ps_asg (pe_op op_fdivW (pe_ix (r := rIxL K) ix_list (pv 0) pe_int (fun _ _ => rfl)) (pv 1)) (pg_sub (pv 0) pe_int set_list))
      (pss_one (ps_ret (pv 2))))) pss_nil)
      (pss_cons (ps_asg (pe_op op_mod (pe_op op_add (pe_op op_mul (pe_ix (r := rIxL K) ix_list (pv 0) pe_int (fun _ _ => rfl)) pe_int) pe_int) pe_int) (pg_sub (pv 0) pe_int set_list))
      (pss_one (ps_ret (pe_op op_mod (pe_op op_fdivW (pe_op op_mod (pe_op op_mul (pe_ix (r := rIxL K) ix_list (pv 0) pe_int (fun _ _ => rfl)) (pe_ix (r := rIxL K) ix_list (pv 0) pe_int (fun _ _ => rfl))) pe_int) pe_int) (pv 1)))))), ?_⟩
    obtain ⟨hp, x0, y0, y1⟩ := hp
    refine ⟨_, rfl, a, _, 0, _, rfl, rfl, .of hp, atI_nat (j := 0) rfl, _, _, rfl, rfl, _, rfl, ifd (fun c => ?_) (fun c => ?_)⟩
    · refine ⟨_, rfl, a, _, 0, _, rfl, rfl, .of hp, atI_nat (j := 0) rfl, _, rfl, _, _, rfl, rfl, hm, ?_⟩
      refine ⟨_, rfl, a, _, 0, _, rfl, rfl, .of hp, atI_nat (j := 0) rfl, _, rfl, _, _, rfl, rfl, wide_div hm (b := 62) (by omega) (by decide) (by decide), ?_⟩
      refine ⟨_, rfl, a, _, 0, 0, rfl, rfl, hp, rfl, ?_⟩
      refine ⟨_, rfl, q (x % m) (x / m) y _ (Int.emod_nonneg _ (by omega)) (Int.emod_lt_of_pos _ hm) (But.upd (But.refl _ _)) ⟨upd_same, Int.ediv_nonneg x0 (by omega), y0, y1⟩⟩
    · refine ⟨_, rfl, a, _, 1, _, rfl, rfl, .of hp, atI_nat (j := 1) rfl, _, _, rfl, rfl, .inr ⟨by decide, by decide⟩, _, _, rfl, rfl, _, _, rfl, rfl, (by show (0 : Int) < _; decide), ?_⟩
      refine ⟨_, rfl, a, _, 1, 1, rfl, rfl, hp, rfl, ?_⟩
      have u1 : 0 ≤ (y * 48271 + 11) % 2147483647 := Int.emod_nonneg _ (by decide)
      have u2 : (y * 48271 + 11) % 2147483647 < 2147483647 := Int.emod_lt_of_pos _ (by decide)
      refine ⟨_, rfl, a, _, 1, _, rfl, rfl, .of upd_same, atI_nat (j := 1) rfl, _, rfl, a, _, 1, _, rfl, rfl, .of upd_same, atI_nat (j := 1) rfl, _, _, rfl, rfl, .inl ⟨by omega, by omega⟩, _, _, rfl, rfl, (by show (0 : Int) < _; decide), _, _, rfl, rfl, wide_div (by decide) (b := 62) (by decide) (by decide) (by decide), _, rfl, _, _, rfl, rfl, hm, ?_⟩
      exact q _ x ((y * 48271 + 11) % 2147483647) _ (Int.emod_nonneg _ (by omega)) (Int.emod_lt_of_pos _ hm) (But.upd (But.refl _ _)) ⟨upd_same, x0, u1, u2⟩

def sp__law_pool (K : PySem.W.Frag) : Sp := fun vs H Q _ => ∃ (a : Addr) (ns : List Int) (k : Nat), vs = [.ref a, .int k] ∧ SqL K H a (ns.map V.int) ∧ ns.length ≤ 63 ∧ k ≤ 63 ∧ ∀ x y p H', Same H H' → H p = none → Pool H' p x y → Q (.ref p) H'
theorem ok__law_pool {f : Addr} {fd : FuncData} (F : Fun K "_law_pool" "_law_pool" s__law_pool f fd) (T : Txt K w mg) : FnOk P w K mg base CX0 1 f fd ["_law_script", "_law_k"] (sp__law_pool K) := by
  refine F.ok sc__law_pool (fun vs H Q E h => ?_) (fun cdv A outer s H vs Q E hr h => ?_)
  · obtain ⟨a, ns, k, rfl, hS, hlen, hk, q⟩ := h; rfl
  · obtain ⟨a, ns, k, rfl, hS, hlen, hk, q⟩ := h
    refine ⟨_, (pss_cons (ps_set (i := 2) sc__law_pool.nd rfl (.inl rfl) (pe_op op_add (pe_op op_mul pe_int (pe_callB (cr_sum rfl) (by rfl) T.z_sum (by decide +kernel) (pa_cons (pe_slice sl_list (pv 0) po_none (po_some pe_int)) pa_nil))) (pv 1)))
      (pss_cons (ps_if (pt_cmpR op_lt (pv 1) (pe_callB (r := rLenSq K) call_lenSq (by rfl) T.z_len (by decide +kernel) (pa_cons (pv 0) pa_nil)) (nomark _)) (pss_one (ps_set (i := 2) sc__law_pool.nd rfl (.inl rfl) (pe_ix (r := rIxL K) ix_list (pv 0) (pv 1) (fun _ _ => rfl)))) pss_nil)
      (pss_cons (ps_set (i := 3) sc__law_pool.nd rfl (.inl rfl) (pe_callB call_abs (by rfl) T.z_abs (by decide +kernel) (pa_cons (pv 2) pa_nil)))
      (pss_cons (ps_set (i := 4) sc__law_pool.nd rfl (.inl rfl) (pe_op op_mod (pe_op op_mul (pe_op op_add (pe_op op_add (pe_op op_add (pe_op op_mod (pv 3) pe_int) (pe_op op_mul (pe_op op_mul pe_int (pv 1)) (pv 1))) (pe_op op_mul pe_int (pv 1))) pe_int) pe_int) pe_int))
      (pss_one (ps_ret (pe_lst (pa_cons (pe_op op_mul (pv 3) (pe_callTy call_int1 (by rfl) T.z_int (by decide +kernel) (pa_cons (pe_cmpR op_ge (pv 3) (pe_op op_pow pe_int pe_int) (nomark _)) pa_nil))) (pa_cons (pe_op op_mod (pe_op op_mul (pv 4) (pv 4)) pe_int) pa_nil))))))))), ?_⟩
    refine ⟨_, rfl, _, rfl, a, _, rfl, hS, fun p hp => ?_⟩
    have s1 : Same H (upd H p (.lst (cutV (ns.map V.int) none (some 63)))) := same_new hp
    have hS1 : SqL K (upd H p (.lst (cutV (ns.map V.int) none (some 63)))) a (ns.map V.int) := s1.seq hS
    refine ⟨p, ns, rfl, .of (by rw [upd_same, cut63 hlen]), _, _, rfl, rfl, .inl ⟨by decide, by decide⟩, _, rfl, _, _, rfl, rfl, ?_⟩
    refine ⟨_, rfl, _, rfl, a, _, rfl, .inl hS1, _, _, rfl, rfl, _, rfl, ifd (fun c => ?_) (fun c => ?_)⟩
    · rw [List.length_map] at c
      have hk2 : k < ns.length := by omega
      refine ⟨_, rfl, _, rfl, a, _, (k : Int), .int ns[k], rfl, rfl, hS1, atI_nat (by rw [List.getElem?_map, List.getElem?_eq_getElem hk2]; rfl), ?_⟩
      refine ⟨_, rfl, _, rfl, ?_⟩
      refine ⟨_, rfl, _, _, rfl, rfl, (by show (0 : Int) < _; decide), _, rfl, _, _, rfl, rfl, .inl ⟨by decide, by decide⟩, _, rfl, _, _, rfl, rfl, .inr ⟨by omega, by omega⟩, _, _, rfl, rfl, _, rfl, _, _, rfl, rfl, .inl ⟨by decide, by decide⟩, _, _, rfl, rfl, _, _, rfl, rfl, _, _, rfl, rfl, .inr ⟨by decide, by decide⟩, _, _, rfl, rfl, (by show (0 : Int) < _; decide), ?_⟩
      refine ⟨_, rfl, _, rfl, _, _, rfl, rfl, ⟨by decide, by decide, by decide⟩, _, _, rfl, rfl, .inr ⟨_, rfl, _, _, rfl, rfl, .inr (b01 _), ?_⟩⟩
      refine ⟨_, rfl, _, rfl, _, _, rfl, rfl, .inl (mixb _), _, _, rfl, rfl, (by show (0 : Int) < _; decide), sz (by simp), fun p2 hp2 => ?_⟩
      exact q _ _ p2 _ (sameN s1 hp2) (Same.free s1 hp2) ⟨upd_same, sizeb _ _, Int.emod_nonneg _ (by decide), Int.lt_trans (Int.emod_lt_of_pos _ (by decide)) (by decide)⟩
    · refine ⟨_, rfl, _, rfl, ?_⟩
      refine ⟨_, rfl, _, _, rfl, rfl, (by show (0 : Int) < _; decide), _, rfl, _, _, rfl, rfl, .inl ⟨by decide, by decide⟩, _, rfl, _, _, rfl, rfl, .inr ⟨by omega, by omega⟩, _, _, rfl, rfl, _, rfl, _, _, rfl, rfl, .inl ⟨by decide, by decide⟩, _, _, rfl, rfl, _, _, rfl, rfl, _, _, rfl, rfl, .inr ⟨by decide, by decide⟩, _, _, rfl, rfl, (by show (0 : Int) < _; decide), ?_⟩
      refine ⟨_, rfl, _, rfl, _, _, rfl, rfl, ⟨by decide, by decide, by decide⟩, _, _, rfl, rfl, .inr ⟨_, rfl, _, _, rfl, rfl, .inr (b01 _), ?_⟩⟩
      refine ⟨_, rfl, _, rfl, _, _, rfl, rfl, .inl (mixb _), _, _, rfl, rfl, (by show (0 : Int) < _; decide), sz (by simp), fun p2 hp2 => ?_⟩
      exact q _ _ p2 _ (sameN s1 hp2) (Same.free s1 hp2) ⟨upd_same, sizeb _ _, Int.emod_nonneg _ (by decide), Int.lt_trans (Int.emod_lt_of_pos _ (by decide)) (by decide)⟩

def sp__law_least (K : PySem.W.Frag) : Sp := fun vs H Q _ => ∃ lo hi, vs = [.int lo, .int hi] ∧ Bd lo hi ∧ ∀ (s : Nat) p, StepIs lo hi s → H p = none → Q (.ref p) (upd H p (.tup [.int (lo / 2 ^ s * 2 ^ s), .int (((hi - 1) / 2 ^ s + 1) * 2 ^ s), .int s]))
theorem ok__law_least {f : Addr} {fd : FuncData} (F : Fun K "_law_least" "_law_least" s__law_least f fd) (T : Txt K w mg) : FnOk P w K mg base CX0 1 f fd ["_law_low", "_law_high"] (sp__law_least K) := by
  refine F.ok sc__law_least (fun vs H Q E h => ?_) (fun cdv A outer s H vs Q E hr h => ?_)
  · obtain ⟨lo, hi, rfl, hb, q⟩ := h; rfl
  · obtain ⟨lo, hi, rfl, hb, q⟩ := h
    refine ⟨_, (pss_cons (ps_set (i := 2) sc__law_least.nd rfl (.inl rfl) pe_int)
      (pss_cons (ps_while PassesOwn.never (pt_cmpR op_gt (pe_op op_sub (pe_op op_shr (pe_op op_sub (pv 1) pe_int) (pv 2)) (pe_op op_shr (pv 0) (pv 2))) pe_int (nomark _)) (pss_one (ps_set (i := 2) sc__law_least.nd rfl (.inl rfl) (pe_op op_add (pv 2) pe_int))))
      (pss_one (ps_ret (pe_tup (pa_cons (pe_op op_shl (pe_op op_shr (pv 0) (pv 2)) (pv 2)) (pa_cons (pe_op op_shl (pe_op op_add (pe_op op_shr (pe_op op_sub (pv 1) pe_int) (pv 2)) pe_int) (pv 2)) (pa_cons (pv 2) pa_nil)))))))), ?_⟩
    refine ⟨fun m σ H' => ∃ s : Nat, σ = [some (.int lo), some (.int hi), some (.int s)] ∧ H' = H ∧ s ≤ 8 ∧ m = 8 - s ∧ ∀ t, t < s → 15 < Dd lo hi t, ⟨8, 0, rfl, rfl, by omega, rfl, fun t ht => by omega⟩, ?_⟩
    rintro m σ H' ⟨s, rfl, rfl, h8, em, hbl⟩
    refine ⟨_, rfl, _, _, rfl, rfl, _, rfl, _, _, rfl, rfl, by omega, _, rfl, _, rfl, _, _, rfl, rfl, by omega, _, _, rfl, rfl, _, _, rfl, rfl, _, rfl, ifd (fun c => ?_) (fun c => ?_)⟩
    · have c2 : 15 < Dd lo hi s := c
      have l8 := lt8 hb c2 h8
      refine ⟨_, fun _ _ h => h, ?_⟩
      refine ⟨_, rfl, _, _, rfl, rfl, 8 - (s + 1), by omega, s + 1, rfl, rfl, by omega, rfl, fun t ht => ?_⟩
      rcases Nat.lt_or_ge t s with d | d
      · exact hbl t d
      · have : t = s := by omega
        subst this; exact c2
    · have c2 : ¬ 15 < Dd lo hi s := c
      refine ⟨_, rfl, _, rfl, _, _, rfl, rfl, by omega, _, rfl, _, _, rfl, rfl, bc hb h8, _, rfl, _, _, rfl, rfl, _, rfl, _, _, rfl, rfl, by omega, _, _, rfl, rfl, _, rfl, _, _, rfl, rfl, bc4 hb h8, _, rfl, sz (by simp), fun p hp => ?_⟩
      exact q s p ⟨h8, by omega, hbl⟩ hp

def sp__law_made (K : PySem.W.Frag) : Sp := fun vs H Q _ => ∃ (lo hi at' kd : Int) (p : Nat → Bool), vs = [.int lo, .int hi, .int at', .str (rtx p), .int kd] ∧ Bd lo hi ∧ (∃ s, Ex lo hi s) ∧ 0 ≤ at' ∧ at' ≤ 4095 ∧ 0 ≤ kd ∧ kd ≤ 15 ∧ OneW (rtx p) ∧ ∀ s b q H', WF b lo hi at' p kd s → Same H H' → H q = none → Wd H' q true b → Q (.ref q) H'
theorem ok__law_made {f : Addr} {fd : FuncData} (F : Fun K "_law_made" "_law_made" s__law_made f fd) (T : Txt K w mg) (C__law_least : Cal P w K mg base "_law_least" 1 ["_law_low", "_law_high"] (sp__law_least K)) : FnOk P w K mg base CX0 2 f fd ["_law_low", "_law_high", "_law_at", "_law_rights_here", "_law_kind"] (sp__law_made K) := by
  refine F.ok sc__law_made (fun vs H Q E h => ?_) (fun cdv A outer s H vs Q E hr h => ?_)
  · obtain ⟨lo, hi, at', kd, p, rfl, bd, ex, a0, a1, k0, k1, ow, q⟩ := h; rfl
  · obtain ⟨lo, hi, at', kd, p, rfl, bd, ex, a0, a1, k0, k1, ow, q⟩ := h
    refine ⟨_, (pss_cons (ps_set (i := 5) sc__law_made.nd rfl (.inl rfl) (pe_ix (r := rIxT K) ix_tup (pe_cal C__law_least (hr.mono (by decide)) (pa_cons (pv 0) (pa_cons (pv 1) pa_nil))) pe_int (fun _ _ => rfl)))
      (pss_cons (ps_set (i := 6) sc__law_made.nd rfl (.inl rfl) (pe_op op_add (pe_op op_add (pe_op op_add (pv 2) (pe_op op_shl (pe_op op_shr (pv 0) (pv 5)) pe_int)) (pe_op op_shl (pe_op op_sub (pe_op op_shr (pe_op op_sub (pv 1) (pv 0)) (pv 5)) pe_int) pe_int)) (pe_op op_shl (pv 5) pe_int)))
      (pss_cons (ps_for PassesOwn.never rfl (pi_enumS (by rfl) T.z_enumerate (pa_cons pe_str pa_nil)) (pg_tup rfl (pgs_cons (pg_name (i := 7) sc__law_made.nd rfl (.inl rfl)) (pgs_cons (pg_name (i := 8) sc__law_made.nd rfl (.inl rfl)) pgs_nil))) (pss_one (ps_set (i := 6) sc__law_made.nd rfl (.inl rfl) (pe_op op_add (pv 6) (pe_op op_shl (pe_callTy call_int1 (by rfl) T.z_int (by decide +kernel) (pa_cons (pe_cmpR op_in_sign (pv 8) (pv 3) (by rfl)) pa_nil)) (pe_op op_add pe_int (pv 7)))))))
      (pss_one (ps_ret (pe_tup (pa_cons pe_bl (pa_cons (pe_op op_add (pv 6) (pe_op op_shl (pv 4) pe_int)) pa_nil)))))))), ?_⟩
    obtain ⟨s0, ex0⟩ := ex
    refine ⟨_, rfl, _, rfl, lo, hi, rfl, bd, fun s p1 hs hp1 => ?_⟩
    have es : s0 = s := ex0.1.uniq hs
    subst es
    refine ⟨p1, _, 2, _, rfl, rfl, .of upd_same, atI_nat (j := 2) rfl, ?_⟩
    have h8 := hs.1
    obtain ⟨b1, b2, b3⟩ := bd
    have d1 := div_le' (s := s0) b1
    have d2 := div_le' (s := s0) (x := hi - lo) (by omega)
    have me := made_eq ex0
    have dd := hs.2.1
    have dn : 0 ≤ Dd lo hi s0 := by
      unfold Dd
      have := Int.ediv_le_ediv (pow_pos2 s0) (show lo ≤ hi - 1 by omega)
      omega
    refine ⟨_, rfl, _, rfl, _, rfl, _, _, rfl, rfl, by omega, _, _, rfl, rfl, cpw (z := lo / 2 ^ s0) d1.1 (by omega) (by omega) (by omega), _, _, rfl, rfl, _, rfl, _, rfl, _, _, rfl, rfl, _, rfl, _, _, rfl, rfl, by omega, _, _, rfl, rfl, _, _, rfl, rfl, cpw (z := (hi - lo) / 2 ^ s0 - 1) (by omega) (by omega) (by omega) (by omega), _, _, rfl, rfl, _, rfl, _, _, rfl, rfl, cpw (z := (s0 : Int)) (by omega) (by omega) (by omega) (by omega), _, _, rfl, rfl, ?_⟩
    have S1 := same_new (o := .tup [.int (lo / 2 ^ s0 * 2 ^ s0), .int (((hi - 1) / 2 ^ s0 + 1) * 2 ^ s0), .int s0]) hp1
    generalize upd H p1 _ = H1 at S1 ⊢
    obtain ⟨z, ez2⟩ : ∃ z : Int, z = at' + lo / 2 ^ s0 * 4096 + Dd lo hi s0 * 16777216 + (s0 : Int) * 268435456 := ⟨_, rfl⟩
    refine ⟨RT, rfl, for_it (walk_enumS (z := RT)) (fun j σ H' => ∃ (w : Int) (v7 v8 : Option V), σ = [some (.int lo), some (.int hi), some (.int at'), some (.str (rtx p)), some (.int kd), some (.int s0), some (.int w), v7, v8] ∧ w = z + (mask p j).sum * 4294967296 ∧ Same H1 H') ⟨_, _, _, rfl, (by
      show at' + lo / 2 ^ s0 * 2 ^ 12 + ((hi - lo) / 2 ^ s0 - 1) * 2 ^ 24 + (s0 : Int) * 2 ^ 28 = _
      rw [me, ez2, show (2 : Int) ^ 12 = 4096 by decide, show (2 : Int) ^ 24 = 16777216 by decide, show (2 : Int) ^ 28 = 268435456 by decide]
      unfold mask; simp), Same.refl _⟩ (fun _ _ _ _ _ => trivial) ?_ ?_⟩
    · rintro j x σ H2 H3 hj ⟨w, v7, v8, rfl, hw, S2⟩ ⟨Tp, x1', y1', rfl, hn, rfl, hx1, hy1⟩
      rw [RT_size] at hj
      have hy1 : (RT.cps[j]?).map (fun c => V.str ⟨#[c]⟩) = some y1' := hy1
      rw [RT_get j hj] at hy1
      have e1 : x1' = .int (j : Int) := (Option.some.inj hx1).symm
      have e2 : y1' = .str (one (code j)) := (Option.some.inj hy1).symm
      subst e1 e2
      refine ⟨Tp, _, rfl, .of upd_same, rfl, _, _, rfl, _, _, rfl, rfl, ?_⟩
      have S3 := sameN (o := .tup [.int (j : Int), .str (one (code j))]) S2 hn
      generalize upd H2 Tp _ = H3 at S3 ⊢
      refine ⟨_, rfl, _, rfl, _, rfl, code j, rtx p, rfl, rfl, .inr ⟨_, rfl, _, rfl, _, _, rfl, rfl, _, _, rfl, rfl, cpw (by split <;> decide) (by split <;> decide) (by omega) (by omega), _, _, rfl, rfl, ?_⟩⟩
      refine ⟨_, _, _, rfl, made_step (p := p) ?_ hw, S3⟩
      rw [Bool.eq_iff_iff, decide_eq_true_iff]
      exact rtx_mem p hj
    rintro σ H2 ⟨w, v7, v8, rfl, hw, S2⟩
    rw [RT_size] at hw
    refine ⟨_, rfl, _, rfl, _, _, rfl, rfl, cpw k0 (by omega) (by decide) (by decide), _, _, rfl, rfl, sz (by simp), fun q2 hq2 => ?_⟩
    have W : WF (w + kd * 2 ^ (41 : Int).toNat) lo hi at' p kd s0 := ⟨⟨b1, b2, b3⟩, ex0, a0, a1, k0, k1, ow, by
      rw [wb_eq, hw, ez2, maskOf_rtx]
      show _ = _ + kd * 2 ^ 41
      omega⟩
    have A := W.all
    exact q s0 _ q2 _ W (sameN (S1.trans S2) hq2) (Same.free (S1.trans S2) hq2) ⟨upd_same, A.1, fun _ => A.2.1⟩

def sp__law_bounds (K : PySem.W.Frag) : Sp := fun vs H Q _ => ∃ (a : Addr) (x y : Int), vs = [.ref a] ∧ Pool H a x y ∧ ∀ (lo hi : Int) q x1 y1 H', Bd lo hi → (∃ s, Ex lo hi s) → But a H H' → Pool H' a x1 y1 → H q = none → H' q = some (.tup [.int lo, .int hi]) → Q (.ref q) H'
theorem ok__law_bounds {f : Addr} {fd : FuncData} (F : Fun K "_law_bounds" "_law_bounds" s__law_bounds f fd) (T : Txt K w mg) (C__law_take : Cal P w K mg base "_law_take" 1 ["_law_pool_here", "_law_many"] (sp__law_take K)) (C__law_least : Cal P w K mg base "_law_least" 1 ["_law_low", "_law_high"] (sp__law_least K)) : FnOk P w K mg base CX0 2 f fd ["_law_pool_here"] (sp__law_bounds K) := by
  refine F.ok sc__law_bounds (fun vs H Q E h => ?_) (fun cdv A outer s H vs Q E hr h => ?_)
  · obtain ⟨a, x, y, rfl, hP, q⟩ := h; rfl
  · obtain ⟨a, x, y, rfl, hP, q⟩ := h
    refine ⟨_, (pss_cons (ps_set (i := 1) sc__law_bounds.nd rfl (.inl rfl) (pe_ix (r := rIxL K) ix_list (pe_lst (pa_cons pe_int (pa_cons pe_int (pa_cons pe_int (pa_cons pe_int (pa_cons pe_int (pa_cons (pe_cal C__law_take (hr.mono (by decide)) (pa_cons (pv 0) (pa_cons pe_int pa_nil))) (pa_cons (pe_cal C__law_take (hr.mono (by decide)) (pa_cons (pv 0) (pa_cons pe_int pa_nil))) pa_nil)))))))) (pe_cal C__law_take (hr.mono (by decide)) (pa_cons (pv 0) (pa_cons pe_int pa_nil))) (fun _ _ => rfl)))
      (pss_cons (ps_set (i := 2) sc__law_bounds.nd rfl (.inl rfl) (pe_ix (r := rIxL K) ix_list (pe_lst (pa_cons pe_int (pa_cons pe_int (pa_cons pe_int (pa_cons pe_int (pa_cons pe_int (pa_cons pe_int (pa_cons (pe_op op_add pe_int (pe_cal C__law_take (hr.mono (by decide)) (pa_cons (pv 0) (pa_cons pe_int pa_nil)))) (pa_cons (pe_op op_add pe_int (pe_cal C__law_take (hr.mono (by decide)) (pa_cons (pv 0) (pa_cons pe_int pa_nil)))) pa_nil))))))))) (pe_cal C__law_take (hr.mono (by decide)) (pa_cons (pv 0) (pa_cons pe_int pa_nil))) (fun _ _ => rfl)))
      (pss_cons (ps_asg (pe_cal C__law_least (hr.mono (by decide)) (pa_cons (pv 1) (pa_cons (pe_callB (call_min2 rfl) (by rfl) T.z_min (by decide +kernel) (pa_cons pe_int (pa_cons (pe_op op_add (pv 1) (pv 2)) pa_nil))) pa_nil))) (pg_tup rfl (pgs_cons (pg_name (i := 3) sc__law_bounds.nd rfl (.inl rfl)) (pgs_cons (pg_name (i := 4) sc__law_bounds.nd rfl (.inl rfl)) (pgs_cons (pg_name (i := 5) sc__law_bounds.nd rfl (.inl rfl)) pgs_nil)))))
      (pss_one (ps_ret (pe_tup (pa_cons (pv 3) (pa_cons (pv 4) pa_nil)))))))), ?_⟩
    refine ⟨_, rfl, a, x, y, _, rfl, hP, by decide, by decide, fun r1 x1 y1 H1 r10 r11 B1 P1 => ⟨_, rfl, a, x1, y1, _, rfl, P1, by decide, by decide, fun r2 x2 y2 H2 r20 r21 B2 P2 => ⟨sz (by simp), fun q1 hq1 => ?_⟩⟩⟩
    refine ⟨_, rfl, a, x2, y2, _, rfl, P2.new hq1, by decide, by decide, fun r3 x3 y3 H3 r30 r31 B3 P3 => ?_⟩
    have n1 : q1 ≠ a := (ne_of_none P2.1 hq1).symm
    obtain ⟨lv, hv, lo, rfl, l0, l1⟩ := pick (xs := [.int 0, .int 1, .int 16, .int 2048, .int 4095, .int r1, .int r2]) (fun v => ∃ z, v = .int z ∧ 0 ≤ z ∧ z ≤ 4095) r30 r31 (by
      intro v hv
      simp at hv
      rcases hv with h | h | h | h | h | h | h <;> exact ⟨_, h, by omega, by omega⟩)
    refine ⟨q1, _, _, _, rfl, rfl, .of (B3 _ _ n1 upd_same), hv, ?_⟩
    clear hv
    refine ⟨_, rfl, a, x3, y3, _, rfl, P3, by decide, by decide, fun r4 x4 y4 H4 r40 r41 B4 P4 => ⟨_, _, rfl, rfl, _, rfl, a, x4, y4, _, rfl, P4, by decide, by decide, fun r5 x5 y5 H5 r50 r51 B5 P5 => ⟨_, _, rfl, rfl, sz (by simp), fun q2 hq2 => ?_⟩⟩⟩
    refine ⟨_, rfl, a, x5, y5, _, rfl, P5.new hq2, by decide, by decide, fun r6 x6 y6 H6 r60 r61 B6 P6 => ?_⟩
    have n2 : q2 ≠ a := (ne_of_none P5.1 hq2).symm
    obtain ⟨mv, hmv, mn, rfl, m0⟩ := pick (xs := [.int 1, .int 2, .int 16, .int 17, .int 32, .int 33, .int (1 + r4), .int (1 + r5)]) (fun v => ∃ z, v = .int z ∧ 1 ≤ z) r60 r61 (by
      intro v hv
      simp at hv
      rcases hv with h | h | h | h | h | h | h | h <;> exact ⟨_, h, by omega⟩)
    refine ⟨q2, _, _, _, rfl, rfl, .of (B6 _ _ n2 upd_same), hmv, ?_⟩
    clear hmv
    have B : But a H H6 := by walk_at "but"
    obtain ⟨h0, eh, h01, h02⟩ : ∃ h0 : Int, h0 = (if lo + mn < 4096 then lo + mn else 4096) ∧ lo < h0 ∧ h0 ≤ 4096 := ⟨_, rfl, by split <;> omega, by split <;> omega⟩
    refine ⟨_, rfl, _, rfl, _, rfl, _, _, rfl, rfl, _, _, rfl, ?_⟩
    rw [← eh]
    refine ⟨lo, h0, rfl, ⟨l0, h01, h02⟩, fun s p1 hs hp1 => ?_⟩
    refine ⟨p1, _, rfl, .of upd_same, rfl, _, _, rfl, _, _, rfl, _, _, rfl, rfl, ?_⟩
    refine ⟨_, rfl, _, rfl, sz (by simp), fun p2 hp2 => ?_⟩
    have fr := least_ex ⟨l0, h01, h02⟩ hs
    refine q _ _ p2 x6 y6 _ fr.1 ⟨s, fr.2.1⟩ (by walk_at "but") ((P6.new hp1).new hp2) (But.free (But.new B hp1) (P6.new hp1) hp2) upd_same

def sp__law_rights (K : PySem.W.Frag) : Sp := fun vs H Q _ => ∃ (a : Addr) (x y : Int), vs = [.ref a] ∧ Pool H a x y ∧ ∀ p x1 y1 H', OneW (rtx p) → But a H H' → Pool H' a x1 y1 → Q (.str (rtx p)) H'
theorem ok__law_rights {f : Addr} {fd : FuncData} (F : Fun K "_law_rights" "_law_rights" s__law_rights f fd) (T : Txt K w mg) (C__law_take : Cal P w K mg base "_law_take" 1 ["_law_pool_here", "_law_many"] (sp__law_take K)) : FnOk P w K mg base CX0 2 f fd ["_law_pool_here"] (sp__law_rights K) := by
  refine F.ok sc__law_rights (fun vs H Q E h => ?_) (fun cdv A outer s H vs Q E hr h => ?_)
  · obtain ⟨a, x, y, rfl, hP, q⟩ := h; rfl
  · obtain ⟨a, x, y, rfl, hP, q⟩ := h
    refine ⟨_, (pss_cons (ps_set (i := 1) sc__law_rights.nd rfl (.inl rfl) (pe_cal C__law_take (hr.mono (by decide)) (pa_cons (pv 0) (pa_cons pe_int pa_nil))))
      (pss_cons (ps_if (pt_cmpR op_eq (pv 1) pe_int (nomark _)) (pss_one (ps_ret (pe_ix (r := rIxL K) ix_list (pe_lst (pa_cons pe_str (pa_cons pe_str pa_nil))) (pe_cal C__law_take (hr.mono (by decide)) (pa_cons (pv 0) (pa_cons pe_int pa_nil))) (fun _ _ => rfl)))) pss_nil)
      (pss_cons (ps_if (pt_cmpR op_eq (pv 1) pe_int (nomark _)) (pss_one (ps_ret (pe_ix (r := rIxL K) ix_list (pe_lst (pa_cons pe_str (pa_cons pe_str (pa_cons pe_str (pa_cons pe_str (pa_cons pe_str pa_nil)))))) (pe_cal C__law_take (hr.mono (by decide)) (pa_cons (pv 0) (pa_cons pe_int pa_nil))) (fun _ _ => rfl)))) pss_nil)
      (pss_cons (ps_if (pt_cmpR op_eq (pv 1) pe_int (nomark _)) (pss_one (ps_ret (pe_ix (r := rIxL K) ix_list (pe_lst (pa_cons pe_str (pa_cons pe_str pa_nil))) (pe_cal C__law_take (hr.mono (by decide)) (pa_cons (pv 0) (pa_cons pe_int pa_nil))) (fun _ _ => rfl)))) pss_nil)
      (pss_cons (ps_if (pt_cmpR op_lt (pv 1) pe_int (nomark _)) (pss_one (ps_ret (pe_ix (r := rIxL K) ix_list (pe_lst (pa_cons pe_str (pa_cons pe_str (pa_cons pe_str pa_nil)))) (pe_cal C__law_take (hr.mono (by decide)) (pa_cons (pv 0) (pa_cons pe_int pa_nil))) (fun _ _ => rfl)))) pss_nil)
      (pss_one (ps_ret (pe_join pe_str (pe_lc (own := [("_law_sign", 2)]) rfl sc__law_rights.nd (pi_str pe_str) (blkOk_by (own := [("_law_sign", 2)]) (N := ["_law_pool_here", "_law_way", "_law_sign"]) (sc := defScope s__law_rights) (by decide +kernel)) (fun _ _ _ _ _ => (pg_name (i := 2) sc__law_rights.nd rfl (.inl rfl))) (fun _ _ _ _ _ => (pts_one (pt_cmpR op_gt (pe_cal C__law_take (hr.mono (by decide)) (pa_cons (pv 0) (pa_cons pe_int pa_nil))) pe_int (nomark _)))) (fun _ _ _ _ _ => (pv 2))))))))))), ?_⟩
    refine ⟨_, rfl, a, x, y, _, rfl, hP, by decide, by decide, fun r1 x1 y1 H1 r10 r11 B1 P1 => ?_⟩
    refine ⟨_, rfl, rfl, _, rfl, ifd (fun c => ?_) (fun c1 => ?_)⟩
    · refine ⟨sz (by simp), fun q1 hq1 => ?_⟩
      refine ⟨_, rfl, a, x1, y1, _, rfl, P1.new hq1, by decide, by decide, fun r2 x2 y2 H2 r20 r21 B2 P2 => ?_⟩
      have n1 : q1 ≠ a := (ne_of_none P1.1 hq1).symm
      obtain ⟨lv, hv, pp, rfl, ow⟩ := pick (xs := [.str (Str.ofString "x"), .str (Str.ofString "fx")]) RV r20 r21 (by
        intro v hv
        simp only [List.mem_cons, List.not_mem_nil, or_false] at hv
        rcases hv with h | h <;> (subst h; exact rvd (by decide +kernel)))
      refine ⟨q1, _, _, _, rfl, rfl, .of (B2 _ _ n1 upd_same), hv, ?_⟩
      exact q pp x2 y2 _ ow (by walk_at "but") P2
    refine ⟨_, rfl, rfl, _, rfl, ifd (fun c => ?_) (fun c2 => ?_)⟩
    · refine ⟨sz (by simp), fun q1 hq1 => ?_⟩
      refine ⟨_, rfl, a, x1, y1, _, rfl, P1.new hq1, by decide, by decide, fun r2 x2 y2 H2 r20 r21 B2 P2 => ?_⟩
      have n1 : q1 ≠ a := (ne_of_none P1.1 hq1).symm
      obtain ⟨lv, hv, pp, rfl, ow⟩ := pick (xs := [.str (Str.ofString "c"), .str (Str.ofString "o"), .str (Str.ofString "fco"), .str (Str.ofString "co"), .str (Str.ofString "fo")]) RV r20 r21 (by
        intro v hv
        simp only [List.mem_cons, List.not_mem_nil, or_false] at hv
        rcases hv with h | h | h | h | h <;> (subst h; exact rvd (by decide +kernel)))
      refine ⟨q1, _, _, _, rfl, rfl, .of (B2 _ _ n1 upd_same), hv, ?_⟩
      exact q pp x2 y2 _ ow (by walk_at "but") P2
    refine ⟨_, rfl, rfl, _, rfl, ifd (fun c => ?_) (fun c3 => ?_)⟩
    · refine ⟨sz (by simp), fun q1 hq1 => ?_⟩
      refine ⟨_, rfl, a, x1, y1, _, rfl, P1.new hq1, by decide, by decide, fun r2 x2 y2 H2 r20 r21 B2 P2 => ?_⟩
      have n1 : q1 ≠ a := (ne_of_none P1.1 hq1).symm
      obtain ⟨lv, hv, pp, rfl, ow⟩ := pick (xs := [.str (Str.ofString ""), .str (Str.ofString "f")]) RV r20 r21 (by
        intro v hv
        simp only [List.mem_cons, List.not_mem_nil, or_false] at hv
        rcases hv with h | h <;> (subst h; exact rvd (by decide +kernel)))
      refine ⟨q1, _, _, _, rfl, rfl, .of (B2 _ _ n1 upd_same), hv, ?_⟩
      exact q pp x2 y2 _ ow (by walk_at "but") P2
    refine ⟨_, rfl, _, _, rfl, rfl, _, rfl, ifd (fun c => ?_) (fun c4 => ?_)⟩
    · refine ⟨sz (by simp), fun q1 hq1 => ?_⟩
      refine ⟨_, rfl, a, x1, y1, _, rfl, P1.new hq1, by decide, by decide, fun r2 x2 y2 H2 r20 r21 B2 P2 => ?_⟩
      have n1 : q1 ≠ a := (ne_of_none P1.1 hq1).symm
      obtain ⟨lv, hv, pp, rfl, ow⟩ := pick (xs := [.str (Str.ofString "rwlsf"), .str (Str.ofString "rwlsn"), .str (Str.ofString "rwlsnf")]) RV r20 r21 (by
        intro v hv
        simp only [List.mem_cons, List.not_mem_nil, or_false] at hv
        rcases hv with h | h | h <;> (subst h; exact rvd (by decide +kernel)))
      refine ⟨q1, _, _, _, rfl, rfl, .of (B2 _ _ n1 upd_same), hv, ?_⟩
      exact q pp x2 y2 _ ow (by walk_at "but") P2
    refine ⟨⟨_, rfl⟩, Str.ofString "rwlsnf", rfl, fun D hD => ?_⟩
    have n0 : D ≠ a := (ne_of_none P1.1 hD).symm
    refine lc_it (walk_str (z := Str.ofString "rwlsnf")) (fun i H' => ∃ p x2 y2, But a H1 H' ∧ Pool H' a x2 y2 ∧ H' D = some (.lst ((rcs p i).map V.str))) ⟨fun _ => false, x1, y1, But.new (But.refl _ _) hD, P1.new hD, upd_same⟩ (fun _ _ _ _ => trivial) ?_ ?_
    · rintro i xx H2 H3 hi ⟨p, x2, y2, B2, P2, hl⟩ ⟨rfl, c', hc', rfl⟩
      rw [RL_size] at hi
      rw [RL_get i hi] at hc'
      have ec : c' = code i := (Option.some.inj hc').symm
      subst ec
      refine ⟨rfl, ?_⟩
      refine ⟨_, rfl, a, x2, y2, _, rfl, P2, by decide, by decide, fun r3 x3 y3 H3 r30 r31 B3 P3 => ⟨_, _, rfl, rfl, _, rfl, ifb (fun e => ?_) (fun e => ?_)⟩⟩
      · refine ⟨_, rfl, _, B3 _ _ n0 hl, ?_, setp p i true, x3, y3, ?_, ?_, ?_⟩
        · rw [List.length_map]
          have := rcs_len p i
          exact szn (by omega)
        · exact fun b o nb e => by
            have n : b ≠ D := ne_of_none e hD
            rw [upd_ne n]; exact B3 _ _ nb (B2 b o nb e)
        · exact ⟨by rw [upd_ne n0.symm]; exact P3.1, P3.2⟩
        · rw [upd_same, rcs_set, List.map_append]; rfl
      · refine ⟨setp p i false, x3, y3, B2.trans B3, P3, ?_⟩
        rw [rcs_set]
        simp only [Bool.false_eq_true, if_false, List.append_nil]
        exact B3 _ _ n0 hl
    · rintro H2 ⟨p, x2, y2, B2, P2, hl⟩
      rw [RL_size] at hl
      refine ⟨_, D, _, rfl, rfl, .inl (.of hl), rcs_fit6 _, ?_⟩
      rw [join_low]
      exact q _ x2 y2 _ (ow_lowp p) (B1.trans B2) P2

def sp__law_word (K : PySem.W.Frag) : Sp := fun vs H Q _ => ∃ (a : Addr) (x y : Int), vs = [.ref a] ∧ Pool H a x y ∧ ∀ q m b x1 y1 H', But a H H' → Pool H' a x1 y1 → H q = none → Wd H' q m b → Q (.ref q) H'
theorem ok__law_word {f : Addr} {fd : FuncData} (F : Fun K "_law_word" "_law_word" s__law_word f fd) (T : Txt K w mg) (C__law_take : Cal P w K mg base "_law_take" 1 ["_law_pool_here", "_law_many"] (sp__law_take K)) (C__law_made : Cal P w K mg base "_law_made" 2 ["_law_low", "_law_high", "_law_at", "_law_rights_here", "_law_kind"] (sp__law_made K)) (C__law_bounds : Cal P w K mg base "_law_bounds" 2 ["_law_pool_here"] (sp__law_bounds K)) (C__law_rights : Cal P w K mg base "_law_rights" 2 ["_law_pool_here"] (sp__law_rights K)) : FnOk P w K mg base CX0 3 f fd ["_law_pool_here"] (sp__law_word K) := by
  refine F.ok sc__law_word (fun vs H Q E h => ?_) (fun cdv A outer s H vs Q E hr h => ?_)
  · obtain ⟨a, x, y, rfl, hP, q⟩ := h; rfl
  · obtain ⟨a, x, y, rfl, hP, q⟩ := h
    refine ⟨_, (pss_cons (ps_if (pt_cmpR op_eq (pe_cal C__law_take (hr.mono (by decide)) (pa_cons (pv 0) (pa_cons pe_int pa_nil))) pe_int (nomark _)) (pss_one (ps_ret (pe_tup (pa_cons pe_bl (pa_cons (pe_ix (r := rIxL K) ix_list (pe_lst (pa_cons pe_int (pa_cons pe_int (pa_cons pe_int (pa_cons (pe_op op_sub (pe_op op_pow pe_int pe_int) pe_int) (pa_cons (pe_cal C__law_take (hr.mono (by decide)) (pa_cons (pv 0) (pa_cons (pe_op op_pow pe_int pe_int) pa_nil))) pa_nil)))))) (pe_cal C__law_take (hr.mono (by decide)) (pa_cons (pv 0) (pa_cons pe_int pa_nil))) (fun _ _ => rfl)) pa_nil))))) pss_nil)
      (pss_cons (ps_asg (pe_cal C__law_bounds (hr.mono (by decide)) (pa_cons (pv 0) pa_nil)) (pg_tup rfl (pgs_cons (pg_name (i := 1) sc__law_word.nd rfl (.inl rfl)) (pgs_cons (pg_name (i := 2) sc__law_word.nd rfl (.inl rfl)) pgs_nil))))
      (pss_cons (ps_set (i := 3) sc__law_word.nd rfl (.inl rfl) (pe_cal C__law_rights (hr.mono (by decide)) (pa_cons (pv 0) pa_nil)))
      (pss_cons (ps_if (PW.pt (pw_and (PW.pt (pw_or (pt_cmpR op_in_sign pe_str (pv 3) (by rfl)) (pw_or1 (pt_cmpR op_in_sign pe_str (pv 3) (by rfl))))) (pw_and1 (pt_cmpR op_gt (pe_cal C__law_take (hr.mono (by decide)) (pa_cons (pv 0) (pa_cons pe_int pa_nil))) pe_int (nomark _))))) (pss_one (ps_asg (pe_ix (r := rIxL K) ix_list (pe_lst (pa_cons (pe_tup (pa_cons pe_int (pa_cons pe_int pa_nil))) (pa_cons (pe_tup (pa_cons pe_int (pa_cons pe_int pa_nil))) (pa_cons (pe_tup (pa_cons pe_int (pa_cons pe_int pa_nil))) (pa_cons (pe_tup (pa_cons pe_int (pa_cons pe_int pa_nil))) (pa_cons (pe_tup (pa_cons pe_int (pa_cons pe_int pa_nil))) pa_nil)))))) (pe_cal C__law_take (hr.mono (by decide)) (pa_cons (pv 0) (pa_cons pe_int pa_nil))) (fun _ _ => rfl)) (pg_tup rfl (pgs_cons (pg_name (i := 1) sc__law_word.nd rfl (.inl rfl)) (pgs_cons (pg_name (i := 2) sc__law_word.nd rfl (.inl rfl)) pgs_nil))))) pss_nil)
      (pss_cons (ps_set (i := 4) sc__law_word.nd rfl (.inl rfl) (pe_ix (r := rIxL K) ix_list (pe_lst (pa_cons (pv 1) (pa_cons (pe_op op_sub (pv 2) pe_int) (pa_cons (pe_op op_mod (pv 2) pe_int) (pa_cons (pe_op op_add (pv 1) (pe_cal C__law_take (hr.mono (by decide)) (pa_cons (pv 0) (pa_cons (pe_op op_sub (pv 2) (pv 1)) pa_nil)))) (pa_cons (pe_cal C__law_take (hr.mono (by decide)) (pa_cons (pv 0) (pa_cons pe_int pa_nil))) pa_nil)))))) (pe_cal C__law_take (hr.mono (by decide)) (pa_cons (pv 0) (pa_cons pe_int pa_nil))) (fun _ _ => rfl)))
      (pss_cons (ps_set (i := 5) sc__law_word.nd rfl (.inl rfl) (pe_ix (r := rIxL K) ix_list (pe_lst (pa_cons pe_int (pa_cons pe_int (pa_cons pe_int (pa_cons pe_int (pa_cons pe_int (pa_cons pe_int (pa_cons pe_int (pa_cons pe_int (pa_cons (pe_cal C__law_take (hr.mono (by decide)) (pa_cons (pv 0) (pa_cons pe_int pa_nil))) pa_nil)))))))))) (pe_cal C__law_take (hr.mono (by decide)) (pa_cons (pv 0) (pa_cons pe_int pa_nil))) (fun _ _ => rfl)))
      (pss_cons (ps_set (i := 6) sc__law_word.nd rfl (.inl rfl) (pe_cal C__law_made (hr.mono (by decide)) (pa_cons (pv 1) (pa_cons (pv 2) (pa_cons (pv 4) (pa_cons (pv 3) (pa_cons (pv 5) pa_nil)))))))
      (pss_one (ps_ret (pe_ix (r := rIxL K) ix_list (pe_lst (pa_cons (pv 6) (pa_cons (pv 6) (pa_cons (pv 6) (pa_cons (pv 6) (pa_cons (pe_tup (pa_cons pe_bl (pa_cons (pe_ix (r := rIxT K) ix_tup (pv 6) pe_int (fun _ _ => rfl)) pa_nil))) pa_nil)))))) (pe_cal C__law_take (hr.mono (by decide)) (pa_cons (pv 0) (pa_cons pe_int pa_nil))) (fun _ _ => rfl))))))))))), ?_⟩
    have pw : (2 : Int) ^ (45 : Int).toNat = 35184372088832 := by decide
    refine ⟨_, rfl, a, x, y, _, rfl, hP, by decide, by decide, fun r1 x1 y1 H1 r10 r11 B1 P1 => ⟨rfl, _, rfl, ifd (fun c => ?_) (fun c1 => ?_)⟩⟩
    · refine ⟨_, _, rfl, rfl, ⟨by decide, by decide, by decide⟩, _, _, rfl, rfl, _, rfl, _, _, rfl, rfl, ⟨by decide, by decide, by decide⟩, a, x1, y1, _, rfl, P1, by rw [pw]; decide, by rw [pw]; decide, fun r2 x2 y2 H2 r20 r21 B2 P2 => ⟨sz (by simp), fun q1 hq1 => ?_⟩⟩
      refine ⟨_, rfl, a, x2, y2, _, rfl, P2.new hq1, by decide, by decide, fun r3 x3 y3 H3 r30 r31 B3 P3 => ?_⟩
      have n1 : q1 ≠ a := (ne_of_none P2.1 hq1).symm
      rw [pw] at r21
      obtain ⟨lv, hv, z, rfl, hz⟩ := pick (xs := [.int 0, .int 1, .int 4095, .int (2 ^ (45 : Int).toNat - 1), .int r2]) (fun v => ∃ z, v = .int z ∧ W45 z) r30 r31 (by
        intro v hv
        simp only [List.mem_cons, List.not_mem_nil, or_false] at hv
        rcases hv with h | h | h | h | h <;> refine ⟨_, h, ?_⟩
        · exact W45_of (n := 0) (by decide)
        · exact W45_of (n := 1) (by decide)
        · exact W45_of (n := 4095) (by decide)
        · rw [pw]; exact W45_of (n := 35184372088831) (by decide)
        · exact ⟨r20, r21⟩)
      refine ⟨q1, _, _, _, rfl, rfl, .of (B3 _ _ n1 upd_same), hv, sz (by simp), fun q2 hq2 => ?_⟩
      have B : But a H H3 := by walk_at "but"
      exact q q2 false z x3 y3 _ (B.new hq2) (P3.new hq2) (B.free P3 hq2) ⟨upd_same, hz, fun h => Bool.noConfusion h⟩
    refine ⟨_, rfl, a, x1, y1, rfl, P1, fun lo hi qb x2 y2 H2 bd ex B2 P2 hqb hqb2 => ⟨qb, _, rfl, .of hqb2, rfl, _, _, rfl, _, _, rfl, rfl, ?_⟩⟩
    refine ⟨_, rfl, a, x2, y2, rfl, P2, fun p x3 y3 H3 ow B3 P3 => ?_⟩
    have B03 : But a H H3 := by walk_at "but"
    refine' with_finW (A := fun lo hi H' => Bd lo hi ∧ (∃ s, Ex lo hi s) ∧ But a H H' ∧ ∃ x y, Pool H' a x y) ?h ?k
    case k =>
      intro fin
      refine ⟨_, rfl, 99, rtx p, rfl, rfl, _, rfl, ifb (fun c2 => ?_) (fun c2 => ?_)⟩
      · refine ⟨_, rfl, a, x3, y3, _, rfl, P3, by decide, by decide, fun r4 x4 y4 G0 r40 r41 B4 P4 => ⟨_, _, rfl, rfl, _, rfl, ifd (fun c3 => ?_) (fun _ => ?_)⟩⟩
        · refine ⟨sz (by simp), fun t1 h1 => ?_⟩
          have f1 : (upd G0 t1 (.tup [.int 3, .int 16])) t1 = some (.tup [.int 3, .int 16]) := upd_same
          have s1 := same_new (o := .tup [.int 3, .int 16]) h1
          generalize upd G0 t1 (.tup [.int 3, .int 16]) = G1 at f1 s1 ⊢
          refine ⟨sz (by simp), fun t2 h2 => ?_⟩
          have f2 : (upd G1 t2 (.tup [.int 3, .int 4])) t2 = some (.tup [.int 3, .int 4]) := upd_same
          have s2 := same_new (o := .tup [.int 3, .int 4]) h2
          generalize upd G1 t2 (.tup [.int 3, .int 4]) = G2 at f2 s2 ⊢
          refine ⟨sz (by simp), fun t3 h3 => ?_⟩
          have f3 : (upd G2 t3 (.tup [.int 5, .int 9])) t3 = some (.tup [.int 5, .int 9]) := upd_same
          have s3 := same_new (o := .tup [.int 5, .int 9]) h3
          generalize upd G2 t3 (.tup [.int 5, .int 9]) = G3 at f3 s3 ⊢
          refine ⟨sz (by simp), fun t4 h4 => ?_⟩
          have f4 : (upd G3 t4 (.tup [.int 0, .int 16])) t4 = some (.tup [.int 0, .int 16]) := upd_same
          have s4 := same_new (o := .tup [.int 0, .int 16]) h4
          generalize upd G3 t4 (.tup [.int 0, .int 16]) = G4 at f4 s4 ⊢
          refine ⟨sz (by simp), fun t5 h5 => ?_⟩
          have f5 : (upd G4 t5 (.tup [.int 2, .int 5])) t5 = some (.tup [.int 2, .int 5]) := upd_same
          have s5 := same_new (o := .tup [.int 2, .int 5]) h5
          generalize upd G4 t5 (.tup [.int 2, .int 5]) = G5 at f5 s5 ⊢
          refine ⟨sz (by simp), fun q1 hq1 => ?_⟩
          have fq1 : (upd G5 q1 (.lst [.ref t1, .ref t2, .ref t3, .ref t4, .ref t5])) q1 = some (.lst [.ref t1, .ref t2, .ref t3, .ref t4, .ref t5]) := upd_same
          have s6 := same_new (o := .lst [.ref t1, .ref t2, .ref t3, .ref t4, .ref t5]) hq1
          generalize upd G5 q1 (.lst [.ref t1, .ref t2, .ref t3, .ref t4, .ref t5]) = G6 at fq1 s6 ⊢
          have g1 : G6 t1 = some (.tup [.int 3, .int 16]) := by walk_at "at"
          have g2 : G6 t2 = some (.tup [.int 3, .int 4]) := by walk_at "at"
          have g3 : G6 t3 = some (.tup [.int 5, .int 9]) := by walk_at "at"
          have g4 : G6 t4 = some (.tup [.int 0, .int 16]) := by walk_at "at"
          have g5 : G6 t5 = some (.tup [.int 2, .int 5]) := by walk_at "at"
          have S6 : Same G0 G6 := by walk_at "same"
          refine ⟨_, rfl, a, x4, y4, _, rfl, P4.same S6, by decide, by decide, fun r5 x5 y5 G7 r50 r51 B7 P7 => ?_⟩
          have nq : q1 ≠ a := by intro e; subst e; have := (P4.same S6).1; rw [fq1] at this; cases this
          have nt : ∀ t l h, G6 t = some (.tup [.int l, .int h]) → G7 t = some (.tup [.int l, .int h]) := fun t l h e => B7 _ _ (by intro z; subst z; have := (P4.same S6).1; rw [e] at this; cases this) e
          obtain ⟨lv, hv, t, l', h', rfl, ht, l0, l1, l2, l3⟩ := pick (xs := [.ref t1, .ref t2, .ref t3, .ref t4, .ref t5]) (fun v => ∃ t l h, v = .ref t ∧ G7 t = some (.tup [.int l, .int h]) ∧ 0 ≤ l ∧ l < h ∧ h ≤ 4096 ∧ h - l ≤ 16) r50 r51 (by
            intro v hv
            simp only [List.mem_cons, List.not_mem_nil, or_false] at hv
            rcases hv with h | h | h | h | h
            · exact ⟨t1, 3, 16, h, nt _ _ _ g1, by decide, by decide, by decide, by decide⟩
            · exact ⟨t2, 3, 4, h, nt _ _ _ g2, by decide, by decide, by decide, by decide⟩
            · exact ⟨t3, 5, 9, h, nt _ _ _ g3, by decide, by decide, by decide, by decide⟩
            · exact ⟨t4, 0, 16, h, nt _ _ _ g4, by decide, by decide, by decide, by decide⟩
            · exact ⟨t5, 2, 5, h, nt _ _ _ g5, by decide, by decide, by decide, by decide⟩)
          refine ⟨q1, _, _, _, rfl, rfl, .of (B7 _ _ nq fq1), hv, ?_⟩
          refine ⟨t, _, rfl, .of ht, rfl, _, _, rfl, _, _, rfl, rfl, ?_⟩
          exact fin l' h' G7 ⟨⟨l0, l1, l2⟩, small_ex l1 l3, B03.trans (B4.trans ((But.of S6).trans B7)), x5, y5, P7⟩
        · exact fin lo hi G0 ⟨bd, ex, B03.trans B4, x4, y4, P4⟩
      · refine ⟨_, rfl, 111, rtx p, rfl, rfl, _, rfl, ifb (fun c2 => ?_) (fun c2 => ?_)⟩
        · refine ⟨_, rfl, a, x3, y3, _, rfl, P3, by decide, by decide, fun r4 x4 y4 G0 r40 r41 B4 P4 => ⟨_, _, rfl, rfl, _, rfl, ifd (fun c3 => ?_) (fun _ => ?_)⟩⟩
          · refine ⟨sz (by simp), fun t1 h1 => ?_⟩
            have f1 : (upd G0 t1 (.tup [.int 3, .int 16])) t1 = some (.tup [.int 3, .int 16]) := upd_same
            have s1 := same_new (o := .tup [.int 3, .int 16]) h1
            generalize upd G0 t1 (.tup [.int 3, .int 16]) = G1 at f1 s1 ⊢
            refine ⟨sz (by simp), fun t2 h2 => ?_⟩
            have f2 : (upd G1 t2 (.tup [.int 3, .int 4])) t2 = some (.tup [.int 3, .int 4]) := upd_same
            have s2 := same_new (o := .tup [.int 3, .int 4]) h2
            generalize upd G1 t2 (.tup [.int 3, .int 4]) = G2 at f2 s2 ⊢
            refine ⟨sz (by simp), fun t3 h3 => ?_⟩
            have f3 : (upd G2 t3 (.tup [.int 5, .int 9])) t3 = some (.tup [.int 5, .int 9]) := upd_same
            have s3 := same_new (o := .tup [.int 5, .int 9]) h3
            generalize upd G2 t3 (.tup [.int 5, .int 9]) = G3 at f3 s3 ⊢
            refine ⟨sz (by simp), fun t4 h4 => ?_⟩
            have f4 : (upd G3 t4 (.tup [.int 0, .int 16])) t4 = some (.tup [.int 0, .int 16]) := upd_same
            have s4 := same_new (o := .tup [.int 0, .int 16]) h4
            generalize upd G3 t4 (.tup [.int 0, .int 16]) = G4 at f4 s4 ⊢
            refine ⟨sz (by simp), fun t5 h5 => ?_⟩
            have f5 : (upd G4 t5 (.tup [.int 2, .int 5])) t5 = some (.tup [.int 2, .int 5]) := upd_same
            have s5 := same_new (o := .tup [.int 2, .int 5]) h5
            generalize upd G4 t5 (.tup [.int 2, .int 5]) = G5 at f5 s5 ⊢
            refine ⟨sz (by simp), fun q1 hq1 => ?_⟩
            have fq1 : (upd G5 q1 (.lst [.ref t1, .ref t2, .ref t3, .ref t4, .ref t5])) q1 = some (.lst [.ref t1, .ref t2, .ref t3, .ref t4, .ref t5]) := upd_same
            have s6 := same_new (o := .lst [.ref t1, .ref t2, .ref t3, .ref t4, .ref t5]) hq1
            generalize upd G5 q1 (.lst [.ref t1, .ref t2, .ref t3, .ref t4, .ref t5]) = G6 at fq1 s6 ⊢
            have g1 : G6 t1 = some (.tup [.int 3, .int 16]) := by walk_at "at"
            have g2 : G6 t2 = some (.tup [.int 3, .int 4]) := by walk_at "at"
            have g3 : G6 t3 = some (.tup [.int 5, .int 9]) := by walk_at "at"
            have g4 : G6 t4 = some (.tup [.int 0, .int 16]) := by walk_at "at"
            have g5 : G6 t5 = some (.tup [.int 2, .int 5]) := by walk_at "at"
            have S6 : Same G0 G6 := by walk_at "same"
            refine ⟨_, rfl, a, x4, y4, _, rfl, P4.same S6, by decide, by decide, fun r5 x5 y5 G7 r50 r51 B7 P7 => ?_⟩
            have nq : q1 ≠ a := by intro e; subst e; have := (P4.same S6).1; rw [fq1] at this; cases this
            have nt : ∀ t l h, G6 t = some (.tup [.int l, .int h]) → G7 t = some (.tup [.int l, .int h]) := fun t l h e => B7 _ _ (by intro z; subst z; have := (P4.same S6).1; rw [e] at this; cases this) e
            obtain ⟨lv, hv, t, l', h', rfl, ht, l0, l1, l2, l3⟩ := pick (xs := [.ref t1, .ref t2, .ref t3, .ref t4, .ref t5]) (fun v => ∃ t l h, v = .ref t ∧ G7 t = some (.tup [.int l, .int h]) ∧ 0 ≤ l ∧ l < h ∧ h ≤ 4096 ∧ h - l ≤ 16) r50 r51 (by
              intro v hv
              simp only [List.mem_cons, List.not_mem_nil, or_false] at hv
              rcases hv with h | h | h | h | h
              · exact ⟨t1, 3, 16, h, nt _ _ _ g1, by decide, by decide, by decide, by decide⟩
              · exact ⟨t2, 3, 4, h, nt _ _ _ g2, by decide, by decide, by decide, by decide⟩
              · exact ⟨t3, 5, 9, h, nt _ _ _ g3, by decide, by decide, by decide, by decide⟩
              · exact ⟨t4, 0, 16, h, nt _ _ _ g4, by decide, by decide, by decide, by decide⟩
              · exact ⟨t5, 2, 5, h, nt _ _ _ g5, by decide, by decide, by decide, by decide⟩)
            refine ⟨q1, _, _, _, rfl, rfl, .of (B7 _ _ nq fq1), hv, ?_⟩
            refine ⟨t, _, rfl, .of ht, rfl, _, _, rfl, _, _, rfl, rfl, ?_⟩
            exact fin l' h' G7 ⟨⟨l0, l1, l2⟩, small_ex l1 l3, B03.trans (B4.trans ((But.of S6).trans B7)), x5, y5, P7⟩
          · exact fin lo hi G0 ⟨bd, ex, B03.trans B4, x4, y4, P4⟩
        · exact fin lo hi H3 ⟨bd, ex, B03, x3, y3, P3⟩
    clear P1 P2 P3 hqb hqb2 B1 B2 B3 B03
    rintro lo hi H4 ⟨bd, ex, B4, x4, y4, P4⟩
    obtain ⟨b1, b2, b3⟩ := id bd
    refine ⟨_, rfl, _, rfl, _, _, rfl, rfl, _, rfl, _, _, rfl, rfl, (by show (0 : Int) < _; decide), ?_⟩
    refine ⟨_, rfl, _, rfl, _, rfl, _, rfl, _, _, rfl, rfl, a, x4, y4, _, rfl, P4, by omega, by omega, fun r5 x5 y5 H5 r50 r51 B5 P5 => ⟨_, _, rfl, rfl, ?_⟩⟩
    refine ⟨_, rfl, a, x5, y5, _, rfl, P5, by decide, by decide, fun r6 x6 y6 H6 r60 r61 B6 P6 => ⟨sz (by simp), fun q3 hq3 => ?_⟩⟩
    refine ⟨_, rfl, a, x6, y6, _, rfl, P6.new hq3, by decide, by decide, fun r7 x7 y7 H7 r70 r71 B7 P7 => ?_⟩
    have n3 : q3 ≠ a := (ne_of_none P6.1 hq3).symm
    obtain ⟨lv, hv, at', rfl, a0, a1⟩ := pick (xs := [.int lo, .int (hi - 1), .int (hi % 4096), .int (lo + r5), .int r6]) (fun v => ∃ z, v = .int z ∧ 0 ≤ z ∧ z ≤ 4095) r70 r71 (by
      intro v hv
      simp only [List.mem_cons, List.not_mem_nil, or_false] at hv
      rcases hv with h | h | h | h | h <;> exact ⟨_, h, by omega, by omega⟩)
    refine ⟨q3, _, _, _, rfl, rfl, .of (B7 _ _ n3 upd_same), hv, ?_⟩
    clear hv
    have B47 : But a H4 H7 := by walk_at "but"
    clear B5 B6 B7 P5 P6
    refine ⟨_, rfl, a, x7, y7, _, rfl, P7, by decide, by decide, fun r8 x8 y8 H8 r80 r81 B8 P8 => ⟨sz (by simp), fun q4 hq4 => ?_⟩⟩
    refine ⟨_, rfl, a, x8, y8, _, rfl, P8.new hq4, by decide, by decide, fun r9 x9 y9 H9 r90 r91 B9 P9 => ?_⟩
    have n4 : q4 ≠ a := (ne_of_none P8.1 hq4).symm
    obtain ⟨lv, hv, kd, rfl, k0, k1⟩ := pick (xs := [.int 0, .int 0, .int 0, .int 1, .int 2, .int 3, .int 4, .int 15, .int r8]) (fun v => ∃ z, v = .int z ∧ 0 ≤ z ∧ z ≤ 15) r90 r91 (by
      intro v hv
      simp only [List.mem_cons, List.not_mem_nil, or_false] at hv
      rcases hv with h | h | h | h | h | h | h | h | h <;> exact ⟨_, h, by omega, by omega⟩)
    refine ⟨q4, _, _, _, rfl, rfl, .of (B9 _ _ n4 upd_same), hv, ?_⟩
    clear hv
    have B09 : But a H H9 := B4.trans (B47.trans (by walk_at "but"))
    refine ⟨_, rfl, _, rfl, _, rfl, _, rfl, _, rfl, lo, hi, at', kd, p, rfl, bd, ex, a0, a1, k0, k1, ow, fun s b qw H10 W s10 hqw hw => ?_⟩
    have P10 := P9.same s10
    have B010 : But a H H10 := B09.trans (But.of s10)
    refine ⟨_, rfl, _, rfl, _, rfl, _, rfl, _, rfl, qw, _, 1, _, rfl, rfl, .of hw.at', atI_nat (j := 1) rfl, sz (by simp), fun q5 hq5 => ⟨sz (by simp), fun q6 hq6 => ?_⟩⟩
    refine ⟨_, rfl, a, x9, y9, _, rfl, (P10.new hq5).new hq6, by decide, by decide, fun r11 x11 y11 H11 r110 r111 B11 P11 => ?_⟩
    have n6 : q6 ≠ a := (ne_of_none (P10.new hq5).1 hq6).symm
    have n5 : q5 ≠ a := (ne_of_none P10.1 hq5).symm
    have nw : qw ≠ a := hw.ne P10
    have w5 : (upd H10 q5 (.tup [.bl false, .int b])) q5 = some (.tup [.bl false, .int b]) := upd_same
    have n56 : q5 ≠ q6 := ne_of_none w5 hq6
    have B1011 : But a H10 H11 := But.trans (But.new (But.new (But.refl _ _) hq5) hq6) B11
    have hw11 := hw.but B1011 nw
    have f5 : H11 q5 = some (.tup [.bl false, .int b]) := B11 _ _ n5 (by rw [upd_ne n56]; exact w5)
    obtain ⟨lv, hv, qr, m, rfl, fr, hr2⟩ := pick (xs := [.ref qw, .ref qw, .ref qw, .ref qw, .ref q5]) (fun v => ∃ q m, v = .ref q ∧ H q = none ∧ Wd H11 q m b) r110 r111 (by
      intro v hv
      simp only [List.mem_cons, List.not_mem_nil, or_false] at hv
      have g : ∃ q m, V.ref qw = .ref q ∧ H q = none ∧ Wd H11 q m b := ⟨qw, true, rfl, B09.free P9 hqw, hw11⟩
      rcases hv with h | h | h | h | h
      · rw [h]; exact g
      · rw [h]; exact g
      · rw [h]; exact g
      · rw [h]; exact g
      · exact ⟨q5, false, h, B010.free P10 hq5, f5, hw.w, fun z => Bool.noConfusion z⟩)
    refine ⟨q6, _, _, _, rfl, rfl, .of (B11 _ _ n6 upd_same), hv, ?_⟩
    exact q qr m b x11 y11 _ (B010.trans B1011) P11 fr hr2

def sp_Cells_clear (K : PySem.W.Frag) : Sp := fun vs H Q _ => ∃ c L ws f l h, vs = [.ref c, .int l, .int h] ∧ Cel K H c L ws f ∧ Bd l h ∧ ∀ G vs1, Same H G → Cel K (upd G L (.lst vs1)) c L vs1 (clears f l h) → Q .non (upd G L (.lst vs1))
theorem ok_Cells_clear {f : Addr} {fd : FuncData} (F : Fun K "clear" "Cells.clear" s_Cells_clear f fd) (T : Txt K w mg) (C_look_at_bounds : Cal P w K mg base "look_at_bounds" 3 ["low", "high"] (sp_look_at_bounds K)) : FnOk P w K mg base CX0 4 f fd ["self", "low", "high"] (sp_Cells_clear K) := by
  obtain ⟨p_EMPTY, hc_EMPTY, hs_EMPTY⟩ := T.c_EMPTY
  refine F.ok sc_Cells_clear (fun vs H Q E h => ?_) (fun cdv A outer s H vs Q E hr h => ?_)
  · obtain ⟨c, L, ws, f, l, h, rfl, hc, bd, q⟩ := h; rfl
  · obtain ⟨c, L, ws, f, l, h, rfl, hc, bd, q⟩ := h
    refine ⟨_, (pss_cons (ps_expr (pe_cal C_look_at_bounds (hr.mono (by decide)) (pa_cons (pv 1) (pa_cons (pv 2) pa_nil))))
      (pss_one (ps_asg (pe_op op_rep (pe_lst (pa_cons (pe_glob (v := .ref p_EMPTY) (by rfl) hc_EMPTY rfl) pa_nil)) (pe_op op_sub (pv 2) (pv 1))) (pg_sl (pe_fld (pv 0) (by rfl)) (po_some (pv 1)) (po_some (pv 2)))))), ?_⟩
    obtain ⟨⟨C, dx, hC, hi⟩, hl, hn, ha⟩ := id hc
    refine ⟨_, rfl, _, rfl, l, h, rfl, bd, ?_⟩
    obtain ⟨b0, b1, b2⟩ := bd
    refine ⟨sz (by simp), fun L0 hL0 => ?_⟩
    refine ⟨_, rfl, _, rfl, _, _, rfl, rfl, L0, h - l, _, rfl, rfl, upd_same, by omega, by omega, (by rw [sizeLine_eq]; show 1 * _ ≤ _; omega), fun L1 hL1 => ?_⟩
    rw [rep_flat]
    have nL : L ≠ L1 := ne_of_none (same_new (o := .lst [.ref p_EMPTY]) hL0 _ _ hl) hL1
    have sG : Same H (upd (upd H L0 (.lst [.ref p_EMPTY])) L1 (.lst (List.replicate (h - l).toNat (.ref p_EMPTY)))) := sameN (same_new hL0) hL1
    have fN : (upd (upd H L0 (.lst [.ref p_EMPTY])) L1 (.lst (List.replicate (h - l).toNat (.ref p_EMPTY)))) L1 = some (.lst (List.replicate (h - l).toNat (.ref p_EMPTY))) := upd_same
    generalize upd (upd H L0 (.lst [.ref p_EMPTY])) L1 (.lst (List.replicate (h - l).toNat (.ref p_EMPTY))) = G at sG fN ⊢
    have cG := hc.same sG
    refine ⟨_, rfl, c, C, dx, _, .ref L, rfl, sG _ _ hi, T.cl_Cells _ hC, T.nf_Cells__words _ hC, rfl, _, rfl, _, rfl, _, rfl, _, rfl, L, L1, ws, _, l, h, rfl, rfl, rfl, rfl, nL, sG _ _ hl, fN, b0, by omega, by omega, (by rw [List.length_replicate, sizeLine_eq]; omega), ?_⟩
    refine q G _ sG ?_
    obtain ⟨a', rfl⟩ := Int.eq_ofNat_of_zero_le b0
    obtain ⟨c', rfl⟩ := Int.eq_ofNat_of_zero_le (show 0 ≤ h by omega)
    have ec : ((c' : Int) - (a' : Int)).toNat = c' - a' := by omega
    rw [ec]
    refine ⟨⟨C, dx, hC, by rw [upd_ne (fun z => by subst z; rw [hl] at hi; cases hi)]; exact sG _ _ hi⟩, upd_same, ?_, fun i hi4 => ?_⟩
    · rw [List.length_append, List.length_append, List.length_take, List.length_replicate, List.length_drop]
      show min a' ws.length + (c' - a') + (ws.length - c') = 4096
      omega
    show ∃ q, (ws.take a' ++ List.replicate (c' - a') (V.ref p_EMPTY) ++ ws.drop c')[i]? = _ ∧ _
    rw [run_at (by omega) (by omega)]
    unfold clears
    by_cases e : a' ≤ i ∧ i < c'
    · rw [if_pos e, if_pos (by omega)]
      exact ⟨p_EMPTY, rfl, hs_EMPTY _, by unfold W45; decide, fun z => by cases z⟩
    · rw [if_neg e, if_neg (by omega)]
      obtain ⟨q5, e5, w5⟩ := cG.all i hi4
      exact ⟨q5, e5, w5.but (but_self (p := L)) cG.lst nlst.1⟩

def sp_Cells_twin (K : PySem.W.Frag) : Sp := fun vs H Q _ => ∃ c L ws f, vs = [.ref c] ∧ Cel K H c L ws f ∧ ∀ p L2 G, Same H G → H p = none → H L2 = none → Cel K G p L2 ws f → Q (.ref p) G
theorem ok_Cells_twin {f : Addr} {fd : FuncData} (F : Fun K "twin" "Cells.twin" s_Cells_twin f fd) (T : Txt K w mg) (C_Cells___init__ : MkN P w K mg base "Cells" 1 (sp_Cells___init__ K)) : FnOk P w K mg base CX0 3 f fd ["self"] (sp_Cells_twin K) := by
  refine F.ok sc_Cells_twin (fun vs H Q E h => ?_) (fun cdv A outer s H vs Q E hr h => ?_)
  · obtain ⟨c, L, ws, f, rfl, hc, q⟩ := h; rfl
  · obtain ⟨c, L, ws, f, rfl, hc, q⟩ := h
    refine ⟨_, (pss_cons (ps_set (i := 1) sc_Cells_twin.nd rfl (.inl rfl) (pe_mkN C_Cells___init__ (hr.mono (by decide))))
      (pss_cons (ps_fld (pv 1) (pe_callTy (r := rLstOf K) call_lstOf (by rfl) T.z_list (by decide +kernel) (pa_cons (pe_fld (pv 0) (by rfl)) pa_nil)) (by rfl))
      (pss_one (ps_ret (pv 1))))), ?_⟩
    obtain ⟨⟨C, dx, hC, hi⟩, hl, hn, ha⟩ := id hc
    refine fun C2 hC2 p dp hp hdp ndp => ⟨p, C2, dp, rfl, hC2, upd_same, fun L2' ws2 G sG hL2 cel => ⟨rfl, ?_⟩⟩
    have sp : Same H (upd G p (.ins C2 dp [(Str.ofString "_words", .ref L2')])) := fun b o e => by
      rw [upd_ne (ne_of_none e hp)]
      exact sG b o (by rw [upd_ne (ne_of_none e hp), upd_ne (ne_of_none e hdp)]; exact e)
    have fp : (upd G p (.ins C2 dp [(Str.ofString "_words", .ref L2')])) p = some (.ins C2 dp [(Str.ofString "_words", .ref L2')]) := upd_same
    generalize upd G p (.ins C2 dp [(Str.ofString "_words", .ref L2')]) = J at sp fp ⊢
    refine ⟨_, rfl, c, C, dx, _, .ref L, rfl, sp _ _ hi, T.cl_Cells _ hC, T.nf_Cells__words _ hC, rfl, ?_⟩
    refine ⟨L, ws, rfl, .inl (.of (sp _ _ hl)), fun r hr => ?_⟩
    have hr0 : H r = none := by
      cases e : H r with
      | none => rfl
      | some o => rw [sp _ _ e] at hr; cases hr
    have rp : r ≠ p := fun z => by subst z; rw [fp] at hr; cases hr
    refine ⟨_, rfl, p, C2, dp, _, rfl, same_new hr _ _ fp, T.cl_Cells _ hC2, T.nf_Cells__words _ hC2, (by show 1 < 1000; decide), ?_⟩
    rw [show putF (Str.ofString "_words") (V.ref r) [(Str.ofString "_words", V.ref L2')] = [(Str.ofString "_words", V.ref r)] from if_pos rfl]
    have s2 : Same H (upd (upd J r (.lst ws)) p (.ins C2 dp [(Str.ofString "_words", .ref r)])) := fun b o e => by
      rw [upd_ne (ne_of_none e hp)]
      exact same_new hr b o (sp b o e)
    refine ⟨_, rfl, q p r _ s2 hp hr0 ⟨⟨C2, dp, hC2, upd_same⟩, by rw [upd_ne rp]; exact upd_same, hn, fun i hi4 => ?_⟩⟩
    obtain ⟨q1, e1, w1⟩ := ha i hi4
    exact ⟨q1, e1, w1.same s2⟩

def sp_Cells___eq__ (K : PySem.W.Frag) : Sp := fun vs H Q _ => ∃ (c L : Addr) (ws : List V) (f : Nat → Bool × Int) (v : V), vs = [.ref c, v] ∧ Cel K H c L ws f ∧ ((∃ d L2 us g, v = .ref d ∧ Cel K H d L2 us g ∧ ∀ b, (b = true ↔ ∀ i, i < 4096 → f i = g i) → Q (.bl b) H) ∨ (∃ z, v = .str z ∧ Q (.bl false) H))
theorem ok_Cells___eq__ {f : Addr} {fd : FuncData} (F : Fun K "__eq__" "Cells.__eq__" s_Cells___eq__ f fd) (T : Txt K w mg) : FnOk P w K mg base CX0 1 f fd ["self", "other"] (sp_Cells___eq__ K) := by
  obtain ⟨p_Cells, hk_Cells, ak_Cells⟩ := T.k_Cells
  refine F.ok sc_Cells___eq__ (fun vs H Q E h => ?_) (fun cdv A outer s H vs Q E hr h => ?_)
  · obtain ⟨c, L, ws, f, v, rfl, hc, q⟩ := h; rfl
  · obtain ⟨c, L, ws, f, v, rfl, hc, q⟩ := h
    refine ⟨_, (pss_one (ps_ret (pe_and (pe_callB (r := rIsi K) call_isi (by rfl) T.z_isinstance (by decide +kernel) (pa_cons (pv 1) (pa_cons (pe_glob (v := .ref p_Cells) (by rfl) hk_Cells rfl) pa_nil))) (pe_one (pe_cmpR (r := rEqD K) (op_eqD hr.units) (pe_fld (pv 0) (by rfl)) (pe_fld (pv 1) (by rfl)) (nomark _)))))), ?_⟩
    obtain ⟨⟨C, dx, hC, hi⟩, hl, hn, ha⟩ := id hc
    obtain ⟨y1, y2, y3, y4, y5, y6⟩ := T.ty_Cells _ hC
    rcases q with ⟨d, L2', us, g, rfl, hd, q⟩ | ⟨z, rfl, q⟩
    · obtain ⟨⟨C2, dx2, hC2, hi2⟩, hl2, hn2, ha2⟩ := id hd
      cases ns_one hC hC2
      cases ns_one hC ak_Cells
      refine ⟨_, rfl, .ref d, .ref p_Cells, _, _, true, rfl, .own _, .base (.ins hi2 (T.cl_Cells _ hC) y1 y2 y3 y4), y5, ?_⟩
      refine ⟨_, rfl, ?_⟩
      have d1 := dp_words (K := K) (H := H) (ws := ws) (f := f) (by rw [hn]; exact ha)
      have d2 := dp_words (K := K) (H := H) (ws := us) (f := g) (by rw [hn2]; exact ha2)
      rw [hn] at d1
      rw [hn2] at d2
      refine ⟨_, rfl, c, _, dx, _, .ref L, rfl, hi, T.cl_Cells _ hC, T.nf_Cells__words _ hC, rfl, _, rfl, d, _, dx2, _, .ref L2', rfl, hi2, T.cl_Cells _ hC, T.nf_Cells__words _ hC, rfl, _, _, .lst (.inl (.of hl)) d1, .lst (.inl (.of hl2)) d2, shaped_words _, shaped_words _, ?_⟩
      refine q _ ?_
      rw [show PyData.eqv (.list ((List.range 4096).map fun i => dw (f i).1 (f i).2)) (.list ((List.range 4096).map fun i => dw (g i).1 (g i).2)) = PyData.eqvAll ((List.range 4096).map fun i => dw (f i).1 (f i).2) ((List.range 4096).map fun i => dw (g i).1 (g i).2) from by rw [PyData.eqv], eqv_words]
      exact ⟨fun h i hi => h i (List.mem_range.mpr hi), fun h i hi => h i (List.mem_range.mp hi)⟩
    · cases ns_one hC ak_Cells
      refine ⟨_, rfl, .str z, .ref p_Cells, _, _, false, rfl, .own _, .base (.str z), y6, ?_⟩
      exact ⟨_, rfl, q⟩

def sp_Cells_marked__v2 (K : PySem.W.Frag) : Sp := fun vs H Q _ => ∃ c L ws f l h, vs = [.ref c, .int l, .int h] ∧ Cel K H c L ws f ∧ Bd l h ∧ ∀ q H', Same H H' → H q = none → H' q = some (.lst (((List.range (h - l).toNat).filter fun (i : Nat) => (f (l.toNat + i)).1).map fun (i : Nat) => V.int (l + (i : Int)))) → Q (.ref q) H'
theorem ok_Cells_marked__v2 {f : Addr} {fd : FuncData} (F : FunD K "marked" "Cells.marked" (defArgs s_Cells_marked__v2) (defBody s_Cells_marked__v2) (defScope s_Cells_marked__v2) [.int 0, .int 4096] [] f fd) (T : Txt K w mg) (C_look_at_bounds : Cal P w K mg base "look_at_bounds" 3 ["low", "high"] (sp_look_at_bounds K)) : FnOk P w K mg base CX0 4 f fd ["self", "low", "high"] (sp_Cells_marked__v2 K) := by
  refine fun_okD F sc_Cells_marked__v2 (fun vs H Q E h => ?_) (fun cdv A outer s H vs Q E hr h => ?_)
  · obtain ⟨c, L, ws, f, l, h, rfl, hc, bd, q⟩ := h; rfl
  · obtain ⟨c, L, ws, f, l, h, rfl, hc, bd, q⟩ := h
    refine ⟨_, (pss_cons (ps_expr (pe_cal C_look_at_bounds (hr.mono (by decide)) (pa_cons (pv 1) (pa_cons (pv 2) pa_nil))))
      (pss_one (ps_ret (pe_lc (own := [("address", 3)]) rfl sc_Cells_marked__v2.nd (pi_range2 (by rfl) T.z_range (pa_cons (pv 1) (pa_cons (pv 2) pa_nil))) (blkOk_by (own := [("address", 3)]) (N := ["self", "low", "high", "address"]) (sc := defScope s_Cells_marked__v2) (by decide +kernel)) (fun _ _ _ _ _ => (pg_name (i := 3) sc_Cells_marked__v2.nd rfl (.inl rfl))) (fun _ _ _ _ _ => (pts_one (pt_val (pe_ix (r := rIxT K) ix_tup (pe_ix (r := rIxL K) ix_list (pe_fldK (K := K) (pv 0)) (pv 3) (fun _ _ => rfl)) pe_int (fun _ _ => rfl))))) (fun _ _ _ _ _ => (pv 3)))))), ?_⟩
    obtain ⟨⟨C, dx, hC, hi⟩, hl, hn, ha⟩ := id hc
    refine ⟨_, rfl, _, rfl, l, h, rfl, bd, ?_⟩
    obtain ⟨b0, b1, b2⟩ := bd
    refine ⟨_, rfl, _, rfl, l, h, rfl, ⟨by omega, by omega, by omega, by omega⟩, fun D hD => lc_gen (walk_range (lo := l) (n := (h - l).toNat)) (fun i => (f (l.toNat + i)).1) (fun i => .int (l + (i : Int))) hD (by rw [sizeLine_eq]; omega) (fun _ _ => trivial) ?_ ?_⟩
    · rintro i x G G' hi4 sG ⟨rfl, rfl⟩ k m hk hm
      have hi4 : i < (h - l).toNat := hi4
      have el : l + (i : Int) = ((l.toNat + i : Nat) : Int) := by omega
      obtain ⟨q1, e1, w1⟩ := ha (l.toNat + i) (by omega)
      refine ⟨rfl, ?_⟩
      refine ⟨_, rfl, c, C, dx, _, .ref L, rfl, sG _ _ hi, T.cl_Cells _ hC, T.nf_Cells__words _ hC, rfl, _, rfl, L, ws, _, _, rfl, congrArg V.int el, .inl (.of (sG _ _ hl)), atI_nat e1, q1, _, 0, _, rfl, rfl, (w1.same sG).at', atI_nat (j := 0) rfl, (f (l.toNat + i)).1, rfl, ifb (fun e => ⟨_, rfl, hk e _ (Same.refl _)⟩) (fun e => hm e _ (Same.refl _))⟩
    · intro G sG hG
      exact q D G sG hD hG

def sp__look_at_address__v1 (K : PySem.W.Frag) : Sp := fun vs H Q E => ∃ v, vs = [v] ∧ ((∃ n : Int, v = .int n ∧ 0 ≤ n ∧ n ≤ 4095 ∧ Q .non H) ∨ (Odd H 0 4095 v ∧ Lets K "NoAddress" "text" H E))
theorem ok__look_at_address__v1 {f : Addr} {fd : FuncData} (F : Fun K "_look_at_address" "_look_at_address" s__look_at_address__v1 f fd) (T : Txt K w mg) (C_is_whole : Cal P w K mg base "is_whole" 1 ["thing", "least", "most"] (sp_is_whole K)) (R_NoAddress : ErrK P w K mg base "NoAddress" "text") : FnOk P w K mg base (L2.CX P w) 3 f fd ["thing"] (sp__look_at_address__v1 K) := by
  obtain ⟨t_CELLS, hc_CELLS⟩ := T.c_CELLS
  refine F.okX sc__look_at_address__v1 (fun vs H Q E h => ?_) (fun cdv A outer s H vs Q E hr h => ?_)
  · obtain ⟨v, rfl, q⟩ := h; rfl
  · obtain ⟨v, rfl, q⟩ := h
    refine ⟨_, (pss_one (ps_if (pt_not (pt_val (pe_cal C_is_whole (hr.mono (by decide)) (pa_cons (pv 0) (pa_cons pe_int (pa_cons (pe_op op_sub (pe_glob (v := .int 4096) (by rfl) hc_CELLS ⟨_, rfl⟩) pe_int) pa_nil)))))) (pss_one (ps_raise rfl (takes_of rfl rfl rfl rfl) (by exact (pmk_err R_NoAddress (hr.mono (by decide)) pe_str)))) pss_nil)), ?_⟩
    rcases q with ⟨n, rfl, n0, n1, q⟩ | ⟨ho, q⟩
    · refine ⟨_, rfl, _, _, rfl, rfl, .int n, 0, _, rfl, .int n, fun b hb2 => ⟨_, rfl, ?_⟩⟩
      have e : b = true := hb2.mpr ⟨n, rfl, n0, by omega⟩
      subst e
      exact q
    · refine ⟨_, rfl, _, _, rfl, rfl, v, 0, _, rfl, ho.1, fun b hb2 => ⟨_, rfl, ifnb (fun e => ?_) (fun e => ?_)⟩⟩
      · exact fun C d hC hd => q C d _ H hC (Same.refl _) hd
      · obtain ⟨n, e1, h0, h1⟩ := hb2.mp e
        exact absurd ⟨h0, by omega⟩ (ho.2 n e1)

def sp__reached__v1 (K : PySem.W.Frag) : Sp := fun vs H Q E => ∃ (w v s : V), vs = [w, v, s] ∧ Odd H (-8) 15 v ∧ Lets K "NoOffset" "text" H E
theorem ok__reached__v1 {f : Addr} {fd : FuncData} (F : Fun K "_reached" "_reached" s__reached__v1 f fd) (T : Txt K w mg) (C_is_whole : Cal P w K mg base "is_whole" 1 ["thing", "least", "most"] (sp_is_whole K)) (C_fields_of : Cal P w K mg base "fields_of" 3 ["word"] (sp_fields_of K)) (C_is_sealed : Cal P w K mg base "is_sealed" 2 ["bits"] (sp_is_sealed K)) (R_Fault : ErrK P w K mg base "Fault" "word") (R_NoOffset : ErrK P w K mg base "NoOffset" "text") : FnOk P w K mg base (L2.CX P w) 4 f fd ["word", "offset", "right"] (sp__reached__v1 K) := by
  obtain ⟨t_LEAST_OFFSET, hc_LEAST_OFFSET⟩ := T.c_LEAST_OFFSET
  obtain ⟨t_TOP_OFFSET, hc_TOP_OFFSET⟩ := T.c_TOP_OFFSET
  refine F.okX sc__reached__v1 (fun vs H Q E h => ?_) (fun cdv A outer s H vs Q E hr h => ?_)
  · obtain ⟨w, v, s, rfl, ho, q⟩ := h; rfl
  · obtain ⟨w, v, s, rfl, ho, q⟩ := h
    refine ⟨_, (pss_cons (ps_if (pt_not (pt_val (pe_cal C_is_whole (hr.mono (by decide)) (pa_cons (pv 1) (pa_cons (pe_glob (v := .int (-8)) (by rfl) hc_LEAST_OFFSET ⟨_, rfl⟩) (pa_cons (pe_glob (v := .int 15) (by rfl) hc_TOP_OFFSET ⟨_, rfl⟩) pa_nil)))))) (pss_one (ps_raise rfl (takes_of rfl rfl rfl rfl) (by exact (pmk_err R_NoOffset (hr.mono (by decide)) pe_str)))) pss_nil)
      (pss_cons (ps_if (pt_not (pt_val (pe_ix (r := rIxT K) ix_tup (pv 0) pe_int (fun _ _ => rfl)))) (pss_one (ps_raise rfl (takes_of rfl rfl rfl rfl) (by exact (pmk_err R_Fault (hr.mono (by decide)) pe_str)))) pss_nil)
      (pss_cons (ps_if (pt_val (pe_cal C_is_sealed (hr.mono (by decide)) (pa_cons (pe_ix (r := rIxT K) ix_tup (pv 0) pe_int (fun _ _ => rfl)) pa_nil))) (pss_one (ps_raise rfl (takes_of rfl rfl rfl rfl) (by exact (pmk_err R_Fault (hr.mono (by decide)) pe_str)))) pss_nil)
      (pss_cons (ps_asg (pe_cal C_fields_of (hr.mono (by decide)) (pa_cons (pv 0) pa_nil)) (pg_tup rfl (pgs_cons (pg_name (i := 3) sc__reached__v1.nd rfl (.inl rfl)) (pgs_cons (pg_name (i := 4) sc__reached__v1.nd rfl (.inl rfl)) (pgs_cons (pg_name (i := 5) sc__reached__v1.nd rfl (.inl rfl)) (pgs_cons (pg_name (i := 6) sc__reached__v1.nd rfl (.inl rfl)) (pgs_cons (pg_name (i := 7) sc__reached__v1.nd rfl (.inl rfl)) pgs_nil)))))))
      (pss_cons (ps_if (pt_cmpR op_notIn_sign (pv 2) (pv 6) (by rfl)) (pss_one (ps_raise rfl (takes_of rfl rfl rfl rfl) (by exact (pmk_err R_Fault (hr.mono (by decide)) pe_str)))) pss_nil)
      (pss_cons (ps_if (pt_not (pt_chain op_le op_lt (pv 3) (pe_op op_add (pv 5) (pv 1)) (pv 4))) (pss_one (ps_raise rfl (takes_of rfl rfl rfl rfl) (by exact (pmk_err R_Fault (hr.mono (by decide)) pe_str)))) pss_nil)
      (PSs.nox (pss_one (ps_ret (pe_op op_add (pv 5) (pv 1))))))))))), ?_⟩
    refine ⟨_, rfl, v, -8, 15, rfl, ho.1, fun b1 hb1 => ⟨_, rfl, ifnb (fun e => ?_) (fun e => ?_)⟩⟩
    · exact fun C d hC hd => q C d _ H hC (Same.refl _) hd
    · obtain ⟨n, e1, h0, h1⟩ := hb1.mp e
      exact absurd ⟨h0, h1⟩ (ho.2 n e1)

def sp_look_at_bounds__v1 (K : PySem.W.Frag) : Sp := fun vs H Q E => ∃ (v u : V), vs = [v, u] ∧ NoBd H v u ∧ Lets K "NoBounds" "text" H E
theorem ok_look_at_bounds__v1 {f : Addr} {fd : FuncData} (F : Fun K "look_at_bounds" "look_at_bounds" s_look_at_bounds__v1 f fd) (T : Txt K w mg) (C_are_bounds : Cal P w K mg base "are_bounds" 2 ["low", "high"] (sp_are_bounds K)) (R_NoBounds : ErrK P w K mg base "NoBounds" "text") : FnOk P w K mg base (L2.CX P w) 3 f fd ["low", "high"] (sp_look_at_bounds__v1 K) := by
  refine F.okX sc_look_at_bounds__v1 (fun vs H Q E h => ?_) (fun cdv A outer s H vs Q E hr h => ?_)
  · obtain ⟨v, u, rfl, hn, q⟩ := h; rfl
  · obtain ⟨v, u, rfl, hn, q⟩ := h
    refine ⟨_, (pss_one (ps_if (pt_not (pt_val (pe_cal C_are_bounds (hr.mono (by decide)) (pa_cons (pv 0) (pa_cons (pv 1) pa_nil))))) (pss_one (ps_raise rfl (takes_of rfl rfl rfl rfl) (by exact (pmk_err R_NoBounds (hr.mono (by decide)) pe_str)))) pss_nil)), ?_⟩
    refine ⟨_, rfl, _, rfl, v, u, rfl, hn.1, hn.2.1, fun b hb => ⟨_, rfl, ifnb (fun e => ?_) (fun e => ?_)⟩⟩
    · exact fun C d hC hd => q C d _ H hC (Same.refl _) hd
    · obtain ⟨lo, hi, e1, e2, bd⟩ := hb.mp e
      exact absurd bd (hn.2.2 _ _ e1 e2)

def sp_Cells_cell__v1 (K : PySem.W.Frag) : Sp := fun vs H Q E => ∃ c L ws f v, vs = [.ref c, v] ∧ Cel K H c L ws f ∧ Odd H 0 4095 v ∧ Lets K "NoAddress" "text" H E
theorem ok_Cells_cell__v1 {f : Addr} {fd : FuncData} (F : Fun K "cell" "Cells.cell" s_Cells_cell__v1 f fd) (T : Txt K w mg) (C__look_at_address__v1 : CalX P w K mg base "_look_at_address" 3 ["thing"] (sp__look_at_address__v1 K)) : FnOk P w K mg base (L2.CX P w) 4 f fd ["self", "address"] (sp_Cells_cell__v1 K) := by
  refine F.okX sc_Cells_cell__v1 (fun vs H Q E h => ?_) (fun cdv A outer s H vs Q E hr h => ?_)
  · obtain ⟨c, L, ws, f, v, rfl, hc, ho, q⟩ := h; rfl
  · obtain ⟨c, L, ws, f, v, rfl, hc, ho, q⟩ := h
    refine ⟨_, (pss_cons (ps_expr (pe_calX C__look_at_address__v1 (hr.mono (by decide)) (takes_of rfl rfl rfl rfl) (by exact (pa_cons (pv 1) pa_nil))))
      (PSs.nox (pss_one (ps_ret (pe_ix (r := rIxL K) ix_list (pe_fld (pv 0) (by rfl)) (pv 1) (fun _ _ => rfl)))))), ?_⟩
    exact ⟨_, rfl, v, rfl, .inr ⟨ho, q⟩⟩

def sp_Cells_lay__v1 (K : PySem.W.Frag) : Sp := fun vs H Q E => ∃ c L ws f v u, vs = [.ref c, v, u] ∧ Cel K H c L ws f ∧ ((Odd H 0 4095 v ∧ Lets K "NoAddress" "text" H E) ∨ (∃ n : Int, v = .int n ∧ 0 ≤ n ∧ n ≤ 4095 ∧ BadW H u ∧ Lets K "NoWord" "text" H E))
theorem ok_Cells_lay__v1 {f : Addr} {fd : FuncData} (F : Fun K "lay" "Cells.lay" s_Cells_lay__v1 f fd) (T : Txt K w mg) (C_is_lawful : Cal P w K mg base "is_lawful" 4 ["thing"] (sp_is_lawful K)) (C__look_at_address__v1 : CalX P w K mg base "_look_at_address" 3 ["thing"] (sp__look_at_address__v1 K)) (R_NoWord : ErrK P w K mg base "NoWord" "text") : FnOk P w K mg base (L2.CX P w) 5 f fd ["self", "address", "word"] (sp_Cells_lay__v1 K) := by
  refine F.okX sc_Cells_lay__v1 (fun vs H Q E h => ?_) (fun cdv A outer s H vs Q E hr h => ?_)
  · obtain ⟨c, L, ws, f, v, u, rfl, hc, q⟩ := h; rfl
  · obtain ⟨c, L, ws, f, v, u, rfl, hc, q⟩ := h
    refine ⟨_, (pss_cons (ps_expr (pe_calX C__look_at_address__v1 (hr.mono (by decide)) (takes_of rfl rfl rfl rfl) (by exact (pa_cons (pv 1) pa_nil))))
      (pss_cons (ps_if (pt_not (pt_val (pe_cal C_is_lawful (hr.mono (by decide)) (pa_cons (pv 2) pa_nil)))) (pss_one (ps_raise rfl (takes_of rfl rfl rfl rfl) (by exact (pmk_err R_NoWord (hr.mono (by decide)) pe_str)))) pss_nil)
      (PSs.nox (pss_one (ps_asg (pv 2) (pg_sub (pe_fld (pv 0) (by rfl)) (pv 1) set_list)))))), ?_⟩
    rcases q with ⟨ho, q⟩ | ⟨n, rfl, n0, n1, hw, q⟩
    · exact ⟨_, rfl, v, rfl, .inr ⟨ho, q⟩⟩
    · refine ⟨_, rfl, .int n, rfl, .inl ⟨n, rfl, n0, n1, ?_⟩⟩
      rcases hw with ⟨p, xs, rfl, hp, kd, no⟩ | hw
      · refine ⟨_, rfl, _, rfl, .inl ⟨p, xs, rfl, hp, kd, fun b H1 s1 hb => ⟨_, rfl, ifnb (fun e => ?_) (fun e => ?_)⟩⟩⟩
        · exact fun C d hC hd => q C d _ H1 hC s1 hd
        · exact absurd (hb.mp e) no
      · refine ⟨_, rfl, _, rfl, .inr ⟨hw, fun H1 s1 => ⟨_, rfl, ifnb (fun e => ?_) (fun e => by cases e)⟩⟩⟩
        exact fun C d hC hd => q C d _ H1 hC s1 hd

def sp_Cells_clear__v1 (K : PySem.W.Frag) : Sp := fun vs H Q E => ∃ c L ws f v u, vs = [.ref c, v, u] ∧ Cel K H c L ws f ∧ NoBd H v u ∧ Lets K "NoBounds" "text" H E
theorem ok_Cells_clear__v1 {f : Addr} {fd : FuncData} (F : Fun K "clear" "Cells.clear" s_Cells_clear__v1 f fd) (T : Txt K w mg) (C_look_at_bounds__v1 : CalX P w K mg base "look_at_bounds" 3 ["low", "high"] (sp_look_at_bounds__v1 K)) : FnOk P w K mg base (L2.CX P w) 4 f fd ["self", "low", "high"] (sp_Cells_clear__v1 K) := by
  obtain ⟨p_EMPTY, hc_EMPTY, hs_EMPTY⟩ := T.c_EMPTY
  refine F.okX sc_Cells_clear__v1 (fun vs H Q E h => ?_) (fun cdv A outer s H vs Q E hr h => ?_)
  · obtain ⟨c, L, ws, f, v, u, rfl, hc, hn, q⟩ := h; rfl
  · obtain ⟨c, L, ws, f, v, u, rfl, hc, hn, q⟩ := h
    refine ⟨_, (pss_cons (ps_expr (pe_calX C_look_at_bounds__v1 (hr.mono (by decide)) (takes_of rfl rfl rfl rfl) (by exact (pa_cons (pv 1) (pa_cons (pv 2) pa_nil)))))
      (PSs.nox (pss_one (ps_asg (pe_op op_rep (pe_lst (pa_cons (pe_glob (v := .ref p_EMPTY) (by rfl) hc_EMPTY rfl) pa_nil)) (pe_op op_sub (pv 2) (pv 1))) (pg_sl (pe_fld (pv 0) (by rfl)) (po_some (pv 1)) (po_some (pv 2))))))), ?_⟩
    exact ⟨_, rfl, _, rfl, v, u, rfl, hn, q⟩

def sp_Cells_marked__v1 (K : PySem.W.Frag) : Sp := fun vs H Q E => ∃ c L ws f v u, vs = [.ref c, v, u] ∧ Cel K H c L ws f ∧ NoBd H v u ∧ Lets K "NoBounds" "text" H E
theorem ok_Cells_marked__v1 {f : Addr} {fd : FuncData} (F : FunD K "marked" "Cells.marked" (defArgs s_Cells_marked__v1) (defBody s_Cells_marked__v1) (defScope s_Cells_marked__v1) [.int 0, .int 4096] [] f fd) (T : Txt K w mg) (C_look_at_bounds__v1 : CalX P w K mg base "look_at_bounds" 3 ["low", "high"] (sp_look_at_bounds__v1 K)) : FnOk P w K mg base (L2.CX P w) 4 f fd ["self", "low", "high"] (sp_Cells_marked__v1 K) := by
  refine fun_okDX F sc_Cells_marked__v1 (fun vs H Q E h => ?_) (fun cdv A outer s H vs Q E hr h => ?_)
  · obtain ⟨c, L, ws, f, v, u, rfl, hc, hn, q⟩ := h; rfl
  · obtain ⟨c, L, ws, f, v, u, rfl, hc, hn, q⟩ := h
    refine ⟨_, (pss_cons (ps_expr (pe_calX C_look_at_bounds__v1 (hr.mono (by decide)) (takes_of rfl rfl rfl rfl) (by exact (pa_cons (pv 1) (pa_cons (pv 2) pa_nil)))))
      (PSs.nox (pss_one (ps_ret (pe_lc (own := [("address", 3)]) rfl sc_Cells_marked__v1.nd (pi_range2 (by rfl) T.z_range (pa_cons (pv 1) (pa_cons (pv 2) pa_nil))) (blkOk_by (own := [("address", 3)]) (N := ["self", "low", "high", "address"]) (sc := defScope s_Cells_marked__v1) (by decide +kernel)) (fun _ _ _ _ _ => (pg_name (i := 3) sc_Cells_marked__v1.nd rfl (.inl rfl))) (fun _ _ _ _ _ => (pts_one (pt_val (pe_ix (r := rIxT K) ix_tup (pe_ix (r := rIxL K) ix_list (pe_fldK (K := K) (pv 0)) (pv 3) (fun _ _ => rfl)) pe_int (fun _ _ => rfl))))) (fun _ _ _ _ _ => (pv 3))))))), ?_⟩
    exact ⟨_, rfl, _, rfl, v, u, rfl, hn, q⟩

def sp_Cells_load__v1 (K : PySem.W.Frag) : Sp := fun vs H Q E => ∃ c L ws f w v, vs = [.ref c, w, v] ∧ Cel K H c L ws f ∧ Odd H (-8) 15 v ∧ Lets K "NoOffset" "text" H E
theorem ok_Cells_load__v1 {f : Addr} {fd : FuncData} (F : Fun K "load" "Cells.load" s_Cells_load__v1 f fd) (T : Txt K w mg) (C_rights_in : Cal P w K mg base "rights_in" 2 ["bits"] (sp_rights_in K)) (C_without_mark : Cal P w K mg base "without_mark" 1 ["word"] (sp_without_mark K)) (C__reached__v1 : CalX P w K mg base "_reached" 4 ["word", "offset", "right"] (sp__reached__v1 K)) : FnOk P w K mg base (L2.CX P w) 5 f fd ["self", "word", "offset"] (sp_Cells_load__v1 K) := by
  refine F.okX sc_Cells_load__v1 (fun vs H Q E h => ?_) (fun cdv A outer s H vs Q E hr h => ?_)
  · obtain ⟨c, L, ws, f, w, v, rfl, hc, ho, q⟩ := h; rfl
  · obtain ⟨c, L, ws, f, w, v, rfl, hc, ho, q⟩ := h
    refine ⟨_, (pss_cons (ps_set (i := 3) sc_Cells_load__v1.nd rfl (.inl rfl) (pe_ix (r := rIxL K) ix_list (pe_fld (pv 0) (by rfl)) (pe_calX C__reached__v1 (hr.mono (by decide)) (takes_of rfl rfl rfl rfl) (by exact (pa_cons (pv 1) (pa_cons (pv 2) (pa_cons pe_str pa_nil))))) (fun _ _ => rfl)))
      (PSs.nox (pss_cons (ps_if (pt_cmpR op_in_sign pe_str (pe_cal C_rights_in (hr.mono (by decide)) (pa_cons (pe_ix (r := rIxT K) ix_tup (pv 1) pe_int (fun _ _ => rfl)) pa_nil)) (by rfl)) (pss_one (ps_ret (pv 3))) pss_nil)
      (pss_one (ps_ret (pe_cal C_without_mark (hr.mono (by decide)) (pa_cons (pv 3) pa_nil))))))), ?_⟩
    obtain ⟨⟨C, dx, hC, hi⟩, hl, hn, ha⟩ := id hc
    exact ⟨_, rfl, c, C, dx, _, .ref L, rfl, hi, T.cl_Cells _ hC, T.nf_Cells__words _ hC, rfl, _, rfl, _, rfl, w, v, _, rfl, ho, q⟩

def sp_Cells_store__v1 (K : PySem.W.Frag) : Sp := fun vs H Q E => ∃ c L ws f w v u, vs = [.ref c, w, v, u] ∧ Cel K H c L ws f ∧ Odd H (-8) 15 v ∧ Lets K "NoOffset" "text" H E
theorem ok_Cells_store__v1 {f : Addr} {fd : FuncData} (F : Fun K "store" "Cells.store" s_Cells_store__v1 f fd) (T : Txt K w mg) (C_rights_in : Cal P w K mg base "rights_in" 2 ["bits"] (sp_rights_in K)) (C__look_at_stored : CalX P w K mg base "_look_at_stored" 3 ["rights", "stored_rights"] (sp__look_at_stored K)) (C__reached__v1 : CalX P w K mg base "_reached" 4 ["word", "offset", "right"] (sp__reached__v1 K)) : FnOk P w K mg base (L2.CX P w) 5 f fd ["self", "word", "offset", "what"] (sp_Cells_store__v1 K) := by
  refine F.okX sc_Cells_store__v1 (fun vs H Q E h => ?_) (fun cdv A outer s H vs Q E hr h => ?_)
  · obtain ⟨c, L, ws, f, w, v, u, rfl, hc, ho, q⟩ := h; rfl
  · obtain ⟨c, L, ws, f, w, v, u, rfl, hc, ho, q⟩ := h
    refine ⟨_, (pss_cons (ps_set (i := 4) sc_Cells_store__v1.nd rfl (.inl rfl) (pe_calX C__reached__v1 (hr.mono (by decide)) (takes_of rfl rfl rfl rfl) (by exact (pa_cons (pv 1) (pa_cons (pv 2) (pa_cons pe_str pa_nil))))))
      (pss_cons (ps_if (pt_val (pe_ix (r := rIxT K) ix_tup (pv 3) pe_int (fun _ _ => rfl))) (pss_one (ps_expr (pe_calX C__look_at_stored (hr.mono (by decide)) (takes_of rfl rfl rfl rfl) (by exact (pa_cons (pe_cal C_rights_in (hr.mono (by decide)) (pa_cons (pe_ix (r := rIxT K) ix_tup (pv 1) pe_int (fun _ _ => rfl)) pa_nil)) (pa_cons (pe_cal C_rights_in (hr.mono (by decide)) (pa_cons (pe_ix (r := rIxT K) ix_tup (pv 3) pe_int (fun _ _ => rfl)) pa_nil)) pa_nil)))))) pss_nil)
      (PSs.nox (pss_one (ps_asg (pv 3) (pg_sub (pe_fld (pv 0) (by rfl)) (pv 4) set_list)))))), ?_⟩
    exact ⟨_, rfl, _, rfl, w, v, _, rfl, ho, q⟩

def sp_Cells_poke__v1 (K : PySem.W.Frag) : Sp := fun vs H Q E => ∃ c L ws f w v u, vs = [.ref c, w, v, u] ∧ Cel K H c L ws f ∧ Odd H (-8) 15 v ∧ Lets K "NoOffset" "text" H E
theorem ok_Cells_poke__v1 {f : Addr} {fd : FuncData} (F : Fun K "poke" "Cells.poke" s_Cells_poke__v1 f fd) (T : Txt K w mg) (C__reached__v1 : CalX P w K mg base "_reached" 4 ["word", "offset", "right"] (sp__reached__v1 K)) : FnOk P w K mg base (L2.CX P w) 5 f fd ["self", "word", "offset", "number"] (sp_Cells_poke__v1 K) := by
  obtain ⟨t_POKED, hc_POKED⟩ := T.c_POKED
  refine F.okX sc_Cells_poke__v1 (fun vs H Q E h => ?_) (fun cdv A outer s H vs Q E hr h => ?_)
  · obtain ⟨c, L, ws, f, w, v, u, rfl, hc, ho, q⟩ := h; rfl
  · obtain ⟨c, L, ws, f, w, v, u, rfl, hc, ho, q⟩ := h
    refine ⟨_, (pss_cons (ps_set (i := 4) sc_Cells_poke__v1.nd rfl (.inl rfl) (pe_calX C__reached__v1 (hr.mono (by decide)) (takes_of rfl rfl rfl rfl) (by exact (pa_cons (pv 1) (pa_cons (pv 2) (pa_cons pe_str pa_nil))))))
      (PSs.nox (pss_cons (ps_set (i := 5) sc_Cells_poke__v1.nd rfl (.inl rfl) (pe_ix (r := rIxT K) ix_tup (pe_ix (r := rIxL K) ix_list (pe_fld (pv 0) (by rfl)) (pv 4) (fun _ _ => rfl)) pe_int (fun _ _ => rfl)))
      (pss_one (ps_asg (pe_tup (pa_cons pe_bl (pa_cons (pe_op op_add (pe_op op_sub (pv 5) (pe_op op_mod (pv 5) (pe_glob (v := .int 268435456) (by rfl) hc_POKED ⟨_, rfl⟩))) (pe_op op_mod (pv 3) (pe_glob (v := .int 268435456) (by rfl) hc_POKED ⟨_, rfl⟩))) pa_nil))) (pg_sub (pe_fld (pv 0) (by rfl)) (pv 4) set_list)))))), ?_⟩
    exact ⟨_, rfl, _, rfl, w, v, _, rfl, ho, q⟩

def sp__law_said (K : PySem.W.Frag) : Sp := fun vs H Q _ => ∃ (c L : Addr) (ws : List V) (f : Nat → Bool × Int) (door : Int) (v : V) (w : Addr) (k : Nat), vs = [.ref c, .int door, v, .ref w] ∧ 0 ≤ door ∧ Cel K H c L ws f ∧ DueBad H door v k ∧ ∀ p H', Same H H' → H p = none → H' p = some (.lst [.int (k : Int)]) → Q (.ref p) H'
theorem ok__law_said {f : Addr} {fd : FuncData} (F : Fun K "_law_said" "_law_said" s__law_said f fd) (T : Txt K w mg) (C_Cells_cell__v1 : MthN (L2.CX P w) P w K mg base "Cells" "cell" 4 ["self", "address"] [] (sp_Cells_cell__v1 K)) (C_Cells_lay__v1 : MthN (L2.CX P w) P w K mg base "Cells" "lay" 5 ["self", "address", "word"] [] (sp_Cells_lay__v1 K)) (C_Cells_clear__v1 : MthN (L2.CX P w) P w K mg base "Cells" "clear" 4 ["self", "low", "high"] [] (sp_Cells_clear__v1 K)) (C_Cells_marked__v1 : MthN (L2.CX P w) P w K mg base "Cells" "marked" 4 ["self", "low", "high"] [] (sp_Cells_marked__v1 K)) (C_Cells_load__v1 : MthN (L2.CX P w) P w K mg base "Cells" "load" 5 ["self", "word", "offset"] [] (sp_Cells_load__v1 K)) (C_Cells_store__v1 : MthN (L2.CX P w) P w K mg base "Cells" "store" 5 ["self", "word", "offset", "what"] [] (sp_Cells_store__v1 K)) (C_Cells_poke__v1 : MthN (L2.CX P w) P w K mg base "Cells" "poke" 5 ["self", "word", "offset", "number"] [] (sp_Cells_poke__v1 K)) : FnOk P w K mg base CX0 6 f fd ["_law_cells", "_law_door", "_law_thing", "_law_word_here"] (sp__law_said K) := by
  obtain ⟨p_Fault, hk_Fault, ak_Fault⟩ := T.k_Fault
  obtain ⟨p_NoAddress, hk_NoAddress, ak_NoAddress⟩ := T.k_NoAddress
  obtain ⟨p_NoBounds, hk_NoBounds, ak_NoBounds⟩ := T.k_NoBounds
  obtain ⟨p_NoOffset, hk_NoOffset, ak_NoOffset⟩ := T.k_NoOffset
  obtain ⟨p_NoWord, hk_NoWord, ak_NoWord⟩ := T.k_NoWord
  obtain ⟨p_ReachError, hk_ReachError, ak_ReachError⟩ := T.k_ReachError
  refine F.ok sc__law_said (fun vs H Q E h => ?_) (fun cdv A outer s H vs Q E hr h => ?_)
  · obtain ⟨c, L, ws, f, door, v, w, k, rfl, d0, hc, hd, q⟩ := h; rfl
  · obtain ⟨c, L, ws, f, door, v, w, k, rfl, d0, hc, hd, q⟩ := h
    refine ⟨_, (pss_cons (ps_set (i := 4) sc__law_said.nd rfl (.inl rfl) pe_non)
      (pss_cons (ps_try_keep (i := 5) (c := .ref p_ReachError) (Wout := fun _ _ _ _ => False) rfl rfl rfl sc__law_said.nd rfl rfl ⟨rfl, by decide, .inl hk_ReachError⟩ takes0
      (fun W pn xe tk _ => (pss_one (ps_if (pt_cmpR op_eq (pv 1) pe_int (nomark _)) (pss_one (ps_expr (by exact (pe_mthXNK (K := K) C_Cells_cell__v1 (hr.mono (by decide)) tk (by exact (pv 0)) (by exact (pa_cons (pv 2) pa_nil)))))) (pss_one (ps_if (pt_cmpR op_eq (pv 1) pe_int (nomark _)) (pss_one (ps_expr (by exact (pe_mthXNK (K := K) C_Cells_lay__v1 (hr.mono (by decide)) tk (by exact (pv 0)) (by exact (pa_cons (pv 2) (pa_cons (pv 3) pa_nil))))))) (pss_one (ps_if (pt_cmpR op_eq (pv 1) pe_int (nomark _)) (pss_one (ps_expr (by exact (pe_mthXNK (K := K) C_Cells_lay__v1 (hr.mono (by decide)) tk (by exact (pv 0)) (by exact (pa_cons pe_int (pa_cons (pv 2) pa_nil))))))) (pss_one (ps_if (pt_cmpR op_eq (pv 1) pe_int (nomark _)) (pss_one (ps_expr (by exact (pe_mthXNK (K := K) C_Cells_load__v1 (hr.mono (by decide)) tk (by exact (pv 0)) (by exact (pa_cons (pv 3) (pa_cons (pv 2) pa_nil))))))) (pss_one (ps_if (pt_cmpR op_eq (pv 1) pe_int (nomark _)) (pss_one (ps_expr (by exact (pe_mthXNK (K := K) C_Cells_store__v1 (hr.mono (by decide)) tk (by exact (pv 0)) (by exact (pa_cons (pv 3) (pa_cons (pv 2) (pa_cons (pe_tup (pa_cons pe_bl (pa_cons pe_int pa_nil))) pa_nil)))))))) (pss_one (ps_if (pt_cmpR op_eq (pv 1) pe_int (nomark _)) (pss_one (ps_expr (by exact (pe_mthXNK (K := K) C_Cells_poke__v1 (hr.mono (by decide)) tk (by exact (pv 0)) (by exact (pa_cons (pv 3) (pa_cons (pv 2) (pa_cons pe_int pa_nil)))))))) (pss_one (ps_if (pt_cmpR op_eq (pv 1) pe_int (nomark _)) (pss_one (ps_expr (by exact (pe_mthXNK (K := K) C_Cells_clear__v1 (hr.mono (by decide)) tk (by exact (pv 0)) (by exact (pa_cons (pv 2) (pa_cons pe_int pa_nil))))))) (pss_one (ps_if (pt_cmpR op_eq (pv 1) pe_int (nomark _)) (pss_one (ps_expr (by exact (pe_mthXNK (K := K) C_Cells_marked__v1 (hr.mono (by decide)) tk (by exact (pv 0)) (by exact (pa_cons (pv 2) (pa_cons pe_int pa_nil))))))) (pss_one (ps_if (pt_cmpR op_eq (pv 1) pe_int (nomark _)) (pss_one (ps_expr (by exact (pe_mthXNK (K := K) C_Cells_clear__v1 (hr.mono (by decide)) tk (by exact (pv 0)) (by exact (pa_cons pe_int (pa_cons (pv 2) pa_nil))))))) (pss_one (ps_if (pt_cmpR op_eq (pv 1) pe_int (nomark _)) (pss_one (ps_expr (by exact (pe_mthXNK (K := K) C_Cells_marked__v1 (hr.mono (by decide)) tk (by exact (pv 0)) (by exact (pa_cons pe_int (pa_cons (pv 2) pa_nil))))))) (pss_one (ps_if (pt_cmpR op_eq (pv 1) pe_int (nomark _)) (pss_one (ps_expr (by exact (pe_mthXNK (K := K) C_Cells_clear__v1 (hr.mono (by decide)) tk (by exact (pv 0)) (by exact (pa_cons (pe_ix (r := rIxT K) ix_tup (pv 2) pe_int (fun _ _ => rfl)) (pa_cons (pe_ix (r := rIxT K) ix_tup (pv 2) pe_int (fun _ _ => rfl)) pa_nil))))))) (pss_one (ps_if (pt_cmpR op_eq (pv 1) pe_int (nomark _)) (pss_one (ps_expr (by exact (pe_mthXNK (K := K) C_Cells_marked__v1 (hr.mono (by decide)) tk (by exact (pv 0)) (by exact (pa_cons (pe_ix (r := rIxT K) ix_tup (pv 2) pe_int (fun _ _ => rfl)) (pa_cons (pe_ix (r := rIxT K) ix_tup (pv 2) pe_int (fun _ _ => rfl)) pa_nil))))))) (pss_one (ps_expr (by exact (pe_mthXNK (K := K) C_Cells_lay__v1 (hr.mono (by decide)) tk (by exact (pv 0)) (by exact (pa_cons (pv 2) (pa_cons pe_non pa_nil))))))))))))))))))))))))))))))))
      (fun a oe cls d pn hz hf => (pss_one (ps_set (i := 4) sc__law_said.nd rfl (.inl rfl) (pv 5)))))
      (pss_cons (ps_set (i := 6) sc__law_said.nd rfl (.inr rfl) (pe_lst (pa_cons (pe_callB call_isX (by rfl) T.z_isinstance (by decide +kernel) (pa_cons (pv 4) (pa_cons (pe_glob (v := .ref p_NoAddress) (by rfl) hk_NoAddress rfl) pa_nil))) (pa_cons (pe_callB call_isX (by rfl) T.z_isinstance (by decide +kernel) (pa_cons (pv 4) (pa_cons (pe_glob (v := .ref p_NoWord) (by rfl) hk_NoWord rfl) pa_nil))) (pa_cons (pe_callB call_isX (by rfl) T.z_isinstance (by decide +kernel) (pa_cons (pv 4) (pa_cons (pe_glob (v := .ref p_NoOffset) (by rfl) hk_NoOffset rfl) pa_nil))) pa_nil)))))
      (pss_cons (ps_set (i := 6) sc__law_said.nd rfl (.inr rfl) (pe_op op_cat (pv 6) (pe_lst (pa_cons (pe_callB call_isX (by rfl) T.z_isinstance (by decide +kernel) (pa_cons (pv 4) (pa_cons (pe_glob (v := .ref p_NoBounds) (by rfl) hk_NoBounds rfl) pa_nil))) (pa_cons (pe_callB call_isX (by rfl) T.z_isinstance (by decide +kernel) (pa_cons (pv 4) (pa_cons (pe_glob (v := .ref p_Fault) (by rfl) hk_Fault rfl) pa_nil))) pa_nil)))))
      (pss_one (ps_ret (pe_lc (own := [("_law_at", 7)]) rfl sc__law_said.nd (pi_range1 (by rfl) T.z_range (pa_cons pe_int pa_nil)) (blkOk_by (own := [("_law_at", 7)]) (N := ["_law_cells", "_law_door", "_law_thing", "_law_word_here", "_law_kept", "e", "_law_kinds", "_law_at"]) (sc := defScope s__law_said) (by decide +kernel)) (fun _ _ _ _ _ => (pg_name (i := 7) sc__law_said.nd rfl (.inl rfl))) (fun _ _ _ _ _ => (pts_one (pt_val (pe_ix (r := rIxL K) ix_list (pv 6) (pv 7) (fun _ _ => rfl))))) (fun _ _ _ _ _ => (pv 7))))))))), ?_⟩
    refine' with_finE (A := fun C d _ G => ErrAt K k C ∧ Same H G ∧ G d = none) ?h ?k
    case k =>
      intro fin
      have no : ∀ {x : Int}, ¬ V.int door = V.int x → door ≠ x := fun h e => h (congrArg V.int e)
      refine ⟨_, rfl, rfl, _, rfl, ifd (fun e0 => ?_) (fun n0 => ?_)⟩
      · obtain ⟨ho, ek⟩ := hd.adr (.inl (V.int.inj e0))
        exact ⟨_, rfl, c, _, rfl, hc.ins, rfl, _, rfl, c, L, ws, f, v, rfl, hc, ho, fun C d u G hC s hd => fin C d u G ⟨by rw [ek]; exact hC, s, hd⟩⟩
      refine ⟨_, rfl, rfl, _, rfl, ifd (fun e0 => ?_) (fun n1 => ?_)⟩
      · obtain ⟨ho, ek⟩ := hd.adr (.inr (V.int.inj e0))
        exact ⟨_, rfl, c, _, rfl, hc.ins, rfl, _, rfl, _, rfl, c, L, ws, f, v, _, rfl, hc, .inl ⟨ho, fun C d u G hC s hd => fin C d u G ⟨by rw [ek]; exact hC, s, hd⟩⟩⟩
      refine ⟨_, rfl, rfl, _, rfl, ifd (fun e0 => ?_) (fun n2 => ?_)⟩
      · obtain ⟨ho, ek⟩ := hd.wrd (V.int.inj e0)
        exact ⟨_, rfl, c, _, rfl, hc.ins, rfl, _, rfl, c, L, ws, f, .int 5, v, rfl, hc, .inr ⟨5, rfl, by decide, by decide, ho, fun C d u G hC s hd => fin C d u G ⟨by rw [ek]; exact hC, s, hd⟩⟩⟩
      refine ⟨_, rfl, rfl, _, rfl, ifd (fun e0 => ?_) (fun n3 => ?_)⟩
      · obtain ⟨ho, ek⟩ := hd.off (.inl (V.int.inj e0))
        exact ⟨_, rfl, c, _, rfl, hc.ins, rfl, _, rfl, _, rfl, c, L, ws, f, _, v, rfl, hc, ho, fun C d u G hC s hd => fin C d u G ⟨by rw [ek]; exact hC, s, hd⟩⟩
      refine ⟨_, rfl, rfl, _, rfl, ifd (fun e0 => ?_) (fun n4 => ?_)⟩
      · obtain ⟨ho, ek⟩ := hd.off (.inr (.inl (V.int.inj e0)))
        exact ⟨_, rfl, c, _, rfl, hc.ins, rfl, _, rfl, _, rfl, sz (by simp), fun q5 hq5 => ⟨c, L, ws, f, _, v, _, rfl, hc.same (same_new hq5), ho.same (same_new hq5), fun C d u G hC s hd => fin C d u G ⟨by rw [ek]; exact hC, (same_new hq5).trans s, hd⟩⟩⟩
      refine ⟨_, rfl, rfl, _, rfl, ifd (fun e0 => ?_) (fun n5 => ?_)⟩
      · obtain ⟨ho, ek⟩ := hd.off (.inr (.inr (V.int.inj e0)))
        exact ⟨_, rfl, c, _, rfl, hc.ins, rfl, _, rfl, _, rfl, c, L, ws, f, _, v, _, rfl, hc, ho, fun C d u G hC s hd => fin C d u G ⟨by rw [ek]; exact hC, s, hd⟩⟩
      refine ⟨_, rfl, rfl, _, rfl, ifd (fun e0 => ?_) (fun n6 => ?_)⟩
      · obtain ⟨ho, ek⟩ := hd.low (.inl (V.int.inj e0))
        exact ⟨_, rfl, c, _, rfl, hc.ins, rfl, _, rfl, c, L, ws, f, v, _, rfl, hc, ho, fun C d u G hC s hd => fin C d u G ⟨by rw [ek]; exact hC, s, hd⟩⟩
      refine ⟨_, rfl, rfl, _, rfl, ifd (fun e0 => ?_) (fun n7 => ?_)⟩
      · obtain ⟨ho, ek⟩ := hd.low (.inr (V.int.inj e0))
        exact ⟨_, rfl, c, _, rfl, hc.ins, rfl, _, rfl, c, L, ws, f, v, _, rfl, hc, ho, fun C d u G hC s hd => fin C d u G ⟨by rw [ek]; exact hC, s, hd⟩⟩
      refine ⟨_, rfl, rfl, _, rfl, ifd (fun e0 => ?_) (fun n8 => ?_)⟩
      · obtain ⟨ho, ek⟩ := hd.high (.inl (V.int.inj e0))
        exact ⟨_, rfl, c, _, rfl, hc.ins, rfl, _, rfl, c, L, ws, f, _, v, rfl, hc, ho, fun C d u G hC s hd => fin C d u G ⟨by rw [ek]; exact hC, s, hd⟩⟩
      refine ⟨_, rfl, rfl, _, rfl, ifd (fun e0 => ?_) (fun n9 => ?_)⟩
      · obtain ⟨ho, ek⟩ := hd.high (.inr (V.int.inj e0))
        exact ⟨_, rfl, c, _, rfl, hc.ins, rfl, _, rfl, c, L, ws, f, _, v, rfl, hc, ho, fun C d u G hC s hd => fin C d u G ⟨by rw [ek]; exact hC, s, hd⟩⟩
      refine ⟨_, rfl, rfl, _, rfl, ifd (fun e0 => ?_) (fun n10 => ?_)⟩
      · obtain ⟨⟨p, a, b, rfl, hp, ho⟩, ek⟩ := hd.both (.inl (V.int.inj e0))
        exact ⟨_, rfl, c, _, rfl, hc.ins, rfl, _, rfl, p, _, 0, _, rfl, rfl, .of hp, atI_nat (j := 0) rfl, _, rfl, p, _, 1, _, rfl, rfl, .of hp, atI_nat (j := 1) rfl, c, L, ws, f, a, b, rfl, hc, ho, fun C d u G hC s hd => fin C d u G ⟨by rw [ek]; exact hC, s, hd⟩⟩
      refine ⟨_, rfl, rfl, _, rfl, ifd (fun e0 => ?_) (fun n11 => ?_)⟩
      · obtain ⟨⟨p, a, b, rfl, hp, ho⟩, ek⟩ := hd.both (.inr (V.int.inj e0))
        exact ⟨_, rfl, c, _, rfl, hc.ins, rfl, _, rfl, p, _, 0, _, rfl, rfl, .of hp, atI_nat (j := 0) rfl, _, rfl, p, _, 1, _, rfl, rfl, .of hp, atI_nat (j := 1) rfl, c, L, ws, f, a, b, rfl, hc, ho, fun C d u G hC s hd => fin C d u G ⟨by rw [ek]; exact hC, s, hd⟩⟩
      have n12 : 12 ≤ door := by
        have := no n0; have := no n1; have := no n2; have := no n3; have := no n4; have := no n5; have := no n6; have := no n7; have := no n8; have := no n9; have := no n10; have := no n11
        omega
      rcases hd.rest n12 with ⟨ho, ek⟩ | ⟨rfl, ek⟩
      · exact ⟨_, rfl, c, _, rfl, hc.ins, rfl, _, rfl, c, L, ws, f, v, _, rfl, hc, .inl ⟨ho, fun C d u G hC s hd => fin C d u G ⟨by rw [ek]; exact hC, s, hd⟩⟩⟩
      · exact ⟨_, rfl, c, _, rfl, hc.ins, rfl, _, rfl, c, L, ws, f, _, _, rfl, hc, .inr ⟨5, rfl, by decide, by decide, .inr .non, fun C d u G hC s hd => fin C d u G ⟨by rw [ek]; exact hC, s, hd⟩⟩⟩
    case h =>
      rintro C d u G ⟨hC, s1, hn⟩
      have k4 : k = 0 ∨ k = 1 ∨ k = 2 ∨ k = 3 := by have := hd.four; omega
      have facts : PySem.W.exmOne K (.ref C) (.ref p_ReachError) = some true ∧ ErrC K C ∧ PySem.W.kitOne K (.ref C) (.ref p_NoAddress) = some (decide (k = 0)) ∧ PySem.W.kitOne K (.ref C) (.ref p_NoWord) = some (decide (k = 1)) ∧ PySem.W.kitOne K (.ref C) (.ref p_NoOffset) = some (decide (k = 2)) ∧ PySem.W.kitOne K (.ref C) (.ref p_NoBounds) = some (decide (k = 3)) ∧ PySem.W.kitOne K (.ref C) (.ref p_Fault) = some (decide (k = 4)) := by
        unfold ErrAt at hC
        rcases k4 with rfl | rfl | rfl | rfl
        · exact ⟨T.x_NoAddress_ReachError _ _ hC ak_ReachError, T.e_NoAddress _ hC, T.i_NoAddress_NoAddress _ _ hC ak_NoAddress, T.i_NoAddress_NoWord _ _ hC ak_NoWord, T.i_NoAddress_NoOffset _ _ hC ak_NoOffset, T.i_NoAddress_NoBounds _ _ hC ak_NoBounds, T.i_NoAddress_Fault _ _ hC ak_Fault⟩
        · exact ⟨T.x_NoWord_ReachError _ _ hC ak_ReachError, T.e_NoWord _ hC, T.i_NoWord_NoAddress _ _ hC ak_NoAddress, T.i_NoWord_NoWord _ _ hC ak_NoWord, T.i_NoWord_NoOffset _ _ hC ak_NoOffset, T.i_NoWord_NoBounds _ _ hC ak_NoBounds, T.i_NoWord_Fault _ _ hC ak_Fault⟩
        · exact ⟨T.x_NoOffset_ReachError _ _ hC ak_ReachError, T.e_NoOffset _ hC, T.i_NoOffset_NoAddress _ _ hC ak_NoAddress, T.i_NoOffset_NoWord _ _ hC ak_NoWord, T.i_NoOffset_NoOffset _ _ hC ak_NoOffset, T.i_NoOffset_NoBounds _ _ hC ak_NoBounds, T.i_NoOffset_Fault _ _ hC ak_Fault⟩
        · exact ⟨T.x_NoBounds_ReachError _ _ hC ak_ReachError, T.e_NoBounds _ hC, T.i_NoBounds_NoAddress _ _ hC ak_NoAddress, T.i_NoBounds_NoWord _ _ hC ak_NoWord, T.i_NoBounds_NoOffset _ _ hC ak_NoOffset, T.i_NoBounds_NoBounds _ _ hC ak_NoBounds, T.i_NoBounds_Fault _ _ hC ak_Fault⟩
      obtain ⟨fx, fe, i0', i1', i2', i3', i4'⟩ := facts
      refine ⟨true, fx, fun _ a na => ?_, fun z => nomatch z⟩
      refine ⟨_, rfl, ?_⟩
      have nd : d ≠ a := ne_of_none upd_same na
      have e1 : (upd (upd G d (.xd [("text", u)])) a (kept a (.ref C) (some d))) a = some (kept a (.ref C) (some d)) := upd_same
      have e2 : (upd (upd G d (.xd [("text", u)])) a (kept a (.ref C) (some d))) d = some (.xd [("text", u)]) := by rw [upd_ne nd, upd_same]
      have sm2 : Same H (upd (upd G d (.xd [("text", u)])) a (kept a (.ref C) (some d))) := sameN (sameN s1 hn) na
      refine ⟨_, rfl, a, C, d, _, _, _, _, rfl, e1, e2, fe, .own _, i0', ?_⟩
      generalize upd (upd G d (.xd [("text", u)])) a (kept a (.ref C) (some d)) = H2 at e1 e2 sm2 ⊢
      refine ⟨_, rfl, a, C, d, _, _, _, _, rfl, e1, e2, fe, .own _, i1', ?_⟩
      refine ⟨_, rfl, a, C, d, _, _, _, _, rfl, e1, e2, fe, .own _, i2', ?_⟩
      refine ⟨sz (by simp), fun L1 hL1 => ?_⟩
      have s3 := same_new (o := .lst [.bl (decide (k = 0)), .bl (decide (k = 1)), .bl (decide (k = 2))]) hL1
      have f3 : (upd H2 L1 (.lst [.bl (decide (k = 0)), .bl (decide (k = 1)), .bl (decide (k = 2))])) L1 = some (.lst [.bl (decide (k = 0)), .bl (decide (k = 1)), .bl (decide (k = 2))]) := upd_same
      generalize upd H2 L1 (.lst [.bl (decide (k = 0)), .bl (decide (k = 1)), .bl (decide (k = 2))]) = H3 at s3 f3 ⊢
      have e1 := s3 _ _ e1
      have e2 := s3 _ _ e2
      refine ⟨_, rfl, ?_⟩
      refine ⟨_, rfl, a, C, d, _, _, _, _, rfl, e1, e2, fe, .own _, i3', ?_⟩
      refine ⟨_, rfl, a, C, d, _, _, _, _, rfl, e1, e2, fe, .own _, i4', ?_⟩
      refine ⟨sz (by simp), fun L2' hL2 => ?_⟩
      refine ⟨_, _, _, _, rfl, rfl, same_new hL2 _ _ f3, upd_same, sz (by show 5 ≤ 1000; decide), fun L3 hL3 => ?_⟩
      have s4 : Same H (upd (upd H3 L2' (.lst [.bl (decide (k = 3)), .bl (decide (k = 4))])) L3 (.lst ([.bl (decide (k = 0)), .bl (decide (k = 1)), .bl (decide (k = 2))] ++ [.bl (decide (k = 3)), .bl (decide (k = 4))]))) := sameN (sameN (sm2.trans s3) hL2) hL3
      have f4 : (upd (upd H3 L2' (.lst [.bl (decide (k = 3)), .bl (decide (k = 4))])) L3 (.lst ([.bl (decide (k = 0)), .bl (decide (k = 1)), .bl (decide (k = 2))] ++ [.bl (decide (k = 3)), .bl (decide (k = 4))]))) L3 = some (.lst ((List.range 5).map fun i => V.bl (decide (k = i)))) := upd_same
      generalize upd (upd H3 L2' (.lst [.bl (decide (k = 3)), .bl (decide (k = 4))])) L3 (.lst ([.bl (decide (k = 0)), .bl (decide (k = 1)), .bl (decide (k = 2))] ++ [.bl (decide (k = 3)), .bl (decide (k = 4))])) = H4 at s4 f4 ⊢
      refine ⟨_, rfl, by decide, by decide, fun D hD => lc_gen (walk_range (lo := 0) (n := 5)) (fun i => decide (k = i)) (fun i => .int (0 + (i : Int))) hD (szn (by decide)) (fun _ _ => trivial) ?_ ?_⟩
      · rintro i x G G' hi5 sG ⟨rfl, rfl⟩ k' m' hk hm
        have hi5 : i < 5 := hi5
        refine ⟨rfl, ?_⟩
        have ex : ((List.range 5).map fun i => V.bl (decide (k = i)))[i]? = some (V.bl (decide (k = i))) := by rw [List.getElem?_map, List.getElem?_range hi5]; rfl
        refine ⟨_, rfl, _, rfl, L3, _, (i : Int), _, rfl, congrArg V.int (Int.zero_add _), .of (sG _ _ f4), atI_nat ex, decide (k = i), rfl, ifb (fun e => ⟨_, rfl, hk e _ (Same.refl _)⟩) (fun e => hm e _ (Same.refl _))⟩
      · intro G sG hG
        have nD : H D = none := by
          cases e : H D with
          | none => rfl
          | some o => rw [s4 _ _ e] at hD; cases hD
        refine q D G (s4.trans sG) nD ?_
        rw [hG]
        rcases k4 with rfl | rfl | rfl | rfl <;> rfl

def sp__law_laid (K : PySem.W.Frag) : Sp := fun vs H Q _ => ∃ (p D c L : Addr) (x y : Int) (ws : List V) (f : Nat → Bool × Int) (kvs : List (Key × V)), vs = [.ref p, .ref c, .ref D] ∧ Pool H p x y ∧ Cel K H c L ws f ∧ Bk K H D kvs f ∧ kvs.length < 40 ∧ ∀ x1 y1 ws1 f1 kvs1 H', ButP p L D H H' → Pool H' p x1 y1 → Cel K H' c L ws1 f1 → Bk K H' D kvs1 f1 → kvs1.length ≤ kvs.length + 8 → Q (.bl true) H'
theorem ok__law_laid {f : Addr} {fd : FuncData} (F : Fun K "_law_laid" "_law_laid" s__law_laid f fd) (T : Txt K w mg) (C_Cells_lay : MthN CX0 P w K mg base "Cells" "lay" 5 ["self", "address", "word"] [] (sp_Cells_lay K)) (C__law_take : Cal P w K mg base "_law_take" 1 ["_law_pool_here", "_law_many"] (sp__law_take K)) (C__law_word : Cal P w K mg base "_law_word" 3 ["_law_pool_here"] (sp__law_word K)) : FnOk P w K mg base CX0 6 f fd ["_law_pool_here", "_law_cells", "_law_book"] (sp__law_laid K) := by
  refine F.ok sc__law_laid (fun vs H Q E h => ?_) (fun cdv A outer s H vs Q E hr h => ?_)
  · obtain ⟨p, D, c, L, x, y, ws, f, kvs, rfl, hP, hc, hb, hk, q⟩ := h; rfl
  · obtain ⟨p, D, c, L, x, y, ws, f, kvs, rfl, hP, hc, hb, hk, q⟩ := h
    refine ⟨_, (pss_cons (ps_for PassesOwn.never rfl (pi_range1 (by rfl) T.z_range (pa_cons pe_int pa_nil)) (pg_name (i := 3) sc__law_laid.nd rfl (.inl rfl)) (pss_cons (ps_set (i := 4) sc__law_laid.nd rfl (.inl rfl) (pe_ix (r := rIxL K) ix_list (pe_lst (pa_cons (pe_cal C__law_take (hr.mono (by decide)) (pa_cons (pv 0) (pa_cons pe_int pa_nil))) (pa_cons (pe_cal C__law_take (hr.mono (by decide)) (pa_cons (pv 0) (pa_cons pe_int pa_nil))) (pa_cons pe_int (pa_cons pe_int pa_nil))))) (pe_cal C__law_take (hr.mono (by decide)) (pa_cons (pv 0) (pa_cons pe_int pa_nil))) (fun _ _ => rfl)))
      (pss_cons (ps_dput (hu_of hr) (pv 2) (pv 4) (pe_ix (r := rIxL K) ix_list (pe_lst (pa_cons (pe_cal C__law_word (hr.mono (by decide)) (pa_cons (pv 0) pa_nil)) (pa_cons (pe_tup (pa_cons pe_bl (pa_cons pe_int pa_nil))) pa_nil))) (pe_callTy call_int1 (by rfl) T.z_int (by decide +kernel) (pa_cons (pe_cmpR op_eq (pe_cal C__law_take (hr.mono (by decide)) (pa_cons (pv 0) (pa_cons pe_int pa_nil))) pe_int (nomark _)) pa_nil)) (fun _ _ => rfl)) rfl)
      (pss_one (ps_if (pt_cmpR op_notN (pe_mthN C_Cells_lay (hr.mono (by decide)) (pv 1) (pa_cons (pv 4) (pa_cons (pe_dget (hu_of hr) (pv 2) (pv 4) (fun _ _ => rfl)) pa_nil))) pe_non (nomark _)) (pss_one (ps_ret pe_bl)) pss_nil)))))
      (pss_one (ps_ret pe_bl))), ?_⟩
    have dl : D ≠ L := fun z => by subst z; have := hb.at'; rw [hc.lst] at this; cases this
    have dp : D ≠ p := fun z => by subst z; have := hb.at'; rw [hP.1] at this; cases this
    refine ⟨8, rfl, by decide, by decide, for_range (n := 8) (fun j σ H' => ∃ v3 v4 x y ws f kvs', σ = [some (.ref p), some (.ref c), some (.ref D), v3, v4] ∧ ButP p L D H H' ∧ Pool H' p x y ∧ Cel K H' c L ws f ∧ Bk K H' D kvs' f ∧ kvs'.length ≤ kvs.length + j) ⟨_, _, x, y, ws, f, kvs, rfl, fun _ _ _ _ _ e => e, hP, hc, hb, Nat.le_refl _⟩ ?_ ?_⟩
    · rintro j σ H8 hj ⟨v3, v4, x1, y1, ws1, f1, kvs1, rfl, B8, P8, c8, k8, l8⟩
      refine ⟨_, rfl, p, x1, y1, _, rfl, P8, by decide, by decide, fun r1 x2 y2 H9 r10 r11 B9 P9 => ?_⟩
      refine ⟨_, rfl, p, x2, y2, _, rfl, P9, by decide, by decide, fun r2 x3 y3 H10 r20 r21 B10 P10 => ⟨sz (by simp), fun L1 hL1 => ?_⟩⟩
      refine ⟨_, rfl, p, x3, y3, _, rfl, P10.new hL1, by decide, by decide, fun r3 x4 y4 H11 r30 r31 B11 P11 => ?_⟩
      have f11 := kept_list P10 hL1 B11 (P10.new hL1)
      obtain ⟨lv, hv, ad, rfl, had⟩ := pick (xs := [.int r1, .int r2, .int 0, .int 4095]) (fun v => ∃ n : Nat, v = .int (n : Int) ∧ n < 4096) r30 r31 (by
        intro v hv
        simp only [List.mem_cons, List.not_mem_nil, or_false] at hv
        rcases hv with h | h | h | h
        · exact ⟨r1.toNat, by rw [h]; congr 1; omega, by omega⟩
        · exact ⟨r2.toNat, by rw [h]; congr 1; omega, by omega⟩
        · exact ⟨0, h, by decide⟩
        · exact ⟨4095, h, by decide⟩)
      refine ⟨L1, _, _, _, rfl, rfl, .of f11, hv, ?_⟩
      have Q11 : But p H8 H11 := (B9.trans B10).trans (But.trans (But.new (But.refl _ _) hL1) B11)
      have c11 := c8.butP P8 Q11
      have k11 := k8.butP P8 Q11
      have B11' := B8.trans Q11.P
      clear Q11 B9 B10 B11 P9 P10 hL1 P8 c8 k8 B8 f11 hv
      refine ⟨_, rfl, p, x4, y4, rfl, P11, fun q m b x5 y5 H12 B12 P12 hq w12 => ⟨sz (by simp), fun q0 hq0 => ⟨sz (by simp), fun L2' hL2 => ?_⟩⟩⟩
      have s12 : Same H12 (upd (upd H12 q0 (.tup [.bl false, .int 0])) L2' (.lst [.ref q, .ref q0])) := sameN (same_new hq0) hL2
      have w0 : Wd (upd (upd H12 q0 (.tup [.bl false, .int 0])) L2' (.lst [.ref q, .ref q0])) q0 false 0 := ⟨same_new hL2 _ _ upd_same, by unfold W45; decide, fun z => by cases z⟩
      have f12 : (upd (upd H12 q0 (.tup [.bl false, .int 0])) L2' (.lst [.ref q, .ref q0])) L2' = some (.lst [.ref q, .ref q0]) := upd_same
      have n2 : L2' ≠ p := fun z => by subst z; have := P12.new hq0 (o := .tup [.bl false, .int 0]); rw [this.1] at hL2; cases hL2
      generalize upd (upd H12 q0 (.tup [.bl false, .int 0])) L2' (.lst [.ref q, .ref q0]) = H13 at s12 w0 f12 ⊢
      refine ⟨_, rfl, p, x5, y5, _, rfl, P12.same s12, by decide, by decide, fun r4 x6 y6 H14 r40 r41 B14 P14 => ⟨rfl, .inr ⟨_, rfl, ?_⟩⟩⟩
      have f14 := B14 _ _ n2 f12
      have P13 := P12.same s12
      have w14 := (w12.same s12).but B14 ((w12.same s12).ne P13)
      have w014 := w0.but B14 (w0.ne P13)
      have Q14 : But p H11 H14 := (B12.trans (But.of s12)).trans B14
      have c14 := c11.butP P11 Q14
      have k14 := k11.butP P11 Q14
      have B14' := B11'.trans Q14.P
      obtain ⟨qq, mm, bb, eq, wq⟩ : ∃ qq mm bb, atI [V.ref q, .ref q0] (if decide (V.int r4 = V.int 0) = true then 1 else 0) = some (.ref qq) ∧ Wd H14 qq mm bb := by
        by_cases h : V.int r4 = V.int 0
        · rw [if_pos (decide_eq_true h)]; exact ⟨q0, _, _, atI_nat (j := 1) rfl, w014⟩
        · rw [if_neg (fun z => h (of_decide_eq_true z))]; exact ⟨q, _, _, atI_nat (j := 0) rfl, w14⟩
      refine ⟨L2', _, _, _, rfl, rfl, .of f14, eq, ?_⟩
      refine ⟨_, rfl, _, rfl, D, _, rfl, DPut.k (k := .inl (ad : Int)) k14.at' (szn (by omega)), ?_⟩
      have qd : qq ≠ D := fun z => by subst z; have := k14.at'; rw [wq.at'] at this; cases this
      have k15 := k14.put had wq.k
      have c15 := c14.but (but_self (o := .dK (putK kvs1 (.inl (ad : Int)) (.ref qq)))) k14.at' ndk.1 ndk.2 dl
      have w15 := wq.but (but_self (o := .dK (putK kvs1 (.inl (ad : Int)) (.ref qq)))) qd
      have P15 : Pool (upd H14 D (.dK (putK kvs1 (.inl (ad : Int)) (.ref qq)))) p x6 y6 := ⟨by rw [upd_ne (Ne.symm dp)]; exact P14.1, P14.2⟩
      have get : DGet (upd H14 D (.dK (putK kvs1 (.inl (ad : Int)) (.ref qq)))) D (.int (ad : Int)) (some (.ref qq)) := by
        rw [show some (V.ref qq) = valV (putK kvs1 (.inl (ad : Int)) (.ref qq)) (.inl (ad : Int)) from by rw [valV_put, if_pos rfl]]
        exact DGet.k (k := .inl (ad : Int)) upd_same
      have B15 : ButP p L D H (upd H14 D (.dK (putK kvs1 (.inl (ad : Int)) (.ref qq)))) := B14'.trans butP_D
      have len := length_putK kvs1 (.inl (ad : Int)) (.ref qq)
      generalize upd H14 D (.dK (putK kvs1 (.inl (ad : Int)) (.ref qq))) = H15 at k15 c15 w15 P15 get B15 ⊢
      have pl := c15.pool P15
      refine ⟨_, rfl, c, _, rfl, c15.ins, rfl, _, rfl, _, rfl, _, rfl, D, .ref qq, rfl, get, ?_⟩
      refine ⟨c, L, ws1, f1, qq, mm, bb, (ad : Int), rfl, c15, w15, by omega, by omega, fun H16 s16 => ⟨rfl, _, rfl, ifnd (fun z => absurd rfl z) (fun _ => ?_)⟩⟩
      exact ⟨_, _, x6, y6, _, _, _, rfl, (B15.trans (same_P s16)).trans butP_L, ⟨by rw [upd_ne pl]; exact s16 _ _ P15.1, P15.2⟩, (c15.same s16).lay (w15.same s16).k had, (k15.same s16).but (c15.same s16).lst but_self, by omega⟩
    · rintro σ H8 ⟨v3, v4, x1, y1, ws1, f1, kvs1, rfl, B8, P8, c8, k8, l8⟩
      exact q x1 y1 ws1 f1 kvs1 H8 B8 P8 c8 k8 l8

def sp__law_same (K : PySem.W.Frag) : Sp := fun vs H Q _ => ∃ (D c L : Addr) (ws : List V) (f : Nat → Bool × Int) (kvs : List (Key × V)), vs = [.ref c, .ref D] ∧ Cel K H c L ws f ∧ Bk K H D kvs f ∧ kvs.length < 60 ∧ ∀ H', Same H H' → Q (.bl true) H'
theorem ok__law_same {f : Addr} {fd : FuncData} (F : Fun K "_law_same" "_law_same" s__law_same f fd) (T : Txt K w mg) (C_Cells_cell : MthN CX0 P w K mg base "Cells" "cell" 3 ["self", "address"] [] (sp_Cells_cell K)) (C_Cells_marked : MthN CX0 P w K mg base "Cells" "marked" 4 ["self", "low", "high"] [.int 0, .int 4096] (sp_Cells_marked K)) : FnG P w K mg base 5 f fd ["_law_cells", "_law_book"] (sp__law_same K) := by
  refine fun_okG F sc__law_same (fun vs H Q E h => ?_) (fun cdv A outer s H vs Q hr gd h => ?_)
  · obtain ⟨D, c, L, ws, f, kvs, rfl, hc, hb, hk60, q⟩ := h; rfl
  · obtain ⟨D, c, L, ws, f, kvs, rfl, hc, hb, hk60, q⟩ := h
    refine ⟨_, (pss_cons (ps_for PassesOwn.never rfl (pi_list (pe_op op_cat (pe_callB (call_sortedDI rfl) (by rfl) T.z_sorted (by decide +kernel) (pa_cons (pv 1) pa_nil)) (pe_lst (pa_cons pe_int (pa_cons pe_int (pa_cons pe_int pa_nil)))))) (pg_name (i := 2) sc__law_same.nd rfl (.inl rfl)) (pss_one (ps_if (pt_cmpR op_ne (pe_callB (call_reprD gd hr.units) (by rfl) T.z_repr (by decide +kernel) (pa_cons (pe_mthN C_Cells_cell (hr.mono (by decide)) (pv 0) (pa_cons (pv 2) pa_nil)) pa_nil)) (pe_callB (call_reprD gd hr.units) (by rfl) T.z_repr (by decide +kernel) (pa_cons (pe_dget2 (hu_of hr) (pv 1) (pv 2) (pe_tup (pa_cons pe_bl (pa_cons pe_int pa_nil))) ⟨by rfl, by rfl, by rfl, by rfl⟩) pa_nil)) (nomark _)) (pss_one (ps_ret pe_bl)) pss_nil)))
      (pss_one (ps_ret (pe_cmpR (r := rEqD K) (op_eqD hr.units) (pe_mthN0c C_Cells_marked (E := fun _ => E0) (hr.mono (by decide)) (fun σ pins H s e s' I c => pass0 pins σ H s e s' I c) (pv 0)) (pe_lc (own := [("_law_address", 2)]) rfl sc__law_same.nd (pi_list (pe_callB (call_sortedDI rfl) (by rfl) T.z_sorted (by decide +kernel) (pa_cons (pv 1) pa_nil))) (blkOk_by (own := [("_law_address", 2)]) (N := ["_law_cells", "_law_book", "_law_address"]) (sc := defScope s__law_same) (by decide +kernel)) (fun _ _ _ _ _ => (pg_name (i := 2) sc__law_same.nd rfl (.inl rfl))) (fun _ _ _ _ _ => (pts_one (pt_val (pe_ix (r := rIxT K) ix_tup (pe_dget (hu_of hr) (pv 1) (pv 2) (fun _ _ => rfl)) pe_int (fun _ _ => rfl))))) (fun _ _ _ _ _ => (pv 2))) (nomark _))))), ?_⟩
    obtain ⟨ks, ek⟩ := book_keys hb
    have lk : ks.length = kvs.length := by have e := congrArg List.length ek; rw [List.length_map, List.length_map] at e; exact e.symm
    refine ⟨_, rfl, D, kvs, ks, rfl, .of hb.at', ek, by omega, fun ys q1 hp hs hq1 => ?_⟩
    refine ⟨sz (by simp), fun q2 hq2 => ?_⟩
    refine ⟨_, _, _, _, rfl, rfl, same_new hq2 _ _ upd_same, upd_same, sz (by rw [List.length_map]; have := hp.length_eq; show ys.length + 3 ≤ 1000; omega), fun q3 hq3 => ?_⟩
    have s3 : Same H (upd (upd (upd H q1 (.lst (ys.map V.int))) q2 (.lst [.int 0, .int 1, .int 4095])) q3 (.lst (ys.map V.int ++ [.int 0, .int 1, .int 4095]))) := sameN (sameN (same_new hq1) hq2) hq3
    have f3 : (upd (upd (upd H q1 (.lst (ys.map V.int))) q2 (.lst [.int 0, .int 1, .int 4095])) q3 (.lst (ys.map V.int ++ [.int 0, .int 1, .int 4095]))) q3 = some (.lst (ys.map V.int ++ [.int 0, .int 1, .int 4095])) := upd_same
    generalize upd (upd (upd H q1 (.lst (ys.map V.int))) q2 (.lst [.int 0, .int 1, .int 4095])) q3 (.lst (ys.map V.int ++ [.int 0, .int 1, .int 4095])) = H3 at s3 f3 ⊢
    refine ⟨q3, rfl, ⟨_, .of f3⟩, for_list (K := K) (a := q3) (xs := ys.map V.int ++ [.int 0, .int 1, .int 4095]) (fun j σ H' => ∃ v2, σ = [some (.ref c), some (.ref D), v2] ∧ Same H3 H') ⟨_, rfl, Same.refl _⟩ (fun j σ H' _ ⟨_, _, sm⟩ => .of (sm _ _ f3)) ?_ ?_⟩
    · rintro j x σ H5 hx ⟨v2, rfl, s5⟩
      obtain ⟨n, rfl, hn⟩ : ∃ n : Nat, x = .int (n : Int) ∧ n < 4096 := by
        rcases List.mem_append.mp (List.mem_of_getElem? hx) with m | m
        · obtain ⟨y, hy, rfl⟩ := List.mem_map.mp m
          obtain ⟨i, h1, rfl⟩ := key_in hb ek (hp.mem_iff.mp hy)
          exact ⟨i, rfl, h1⟩
        · simp only [List.mem_cons, List.not_mem_nil, or_false] at m
          rcases m with rfl | rfl | rfl
          · exact ⟨0, rfl, by decide⟩
          · exact ⟨1, rfl, by decide⟩
          · exact ⟨4095, rfl, by decide⟩
      have c5 := (hc.same s3).same s5
      have k5 := (hb.same s3).same s5
      refine ⟨_, rfl, c, _, rfl, c5.ins, rfl, _, rfl, c, L, _, _, (n : Int), rfl, c5, by omega, by omega, fun q5 _ w5 => ?_⟩
      have w5 : Wk K H5 q5 (f n).1 (f n).2 := w5
      have dD := dw_fit (m := (f n).1) w5.w
      refine ⟨.ref q5, dw (f n).1 (f n).2, rfl, dWk w5, dD.1, dD.2.1, dD.2.2.1, dD.2.2.2, ?_⟩
      refine ⟨_, rfl, D, rfl, .inl ⟨_, .of k5.at'⟩, _, rfl, sz (by simp), fun qn hqn => ⟨_, DGet.k (k := .inl (n : Int)) (same_new hqn _ _ k5.at'), ?_⟩⟩
      have own : ∃ qo, (valV kvs (.inl (n : Int))).getD (.ref qn) = .ref qo ∧ Wk K (upd H5 qn (.tup [.bl false, .int 0])) qo (f n).1 (f n).2 := by
        rcases k5.val n hn with ⟨e, ef⟩ | ⟨q, e, wk⟩
        · exact ⟨qn, by rw [e]; rfl, by rw [ef]; exact ⟨.inl (.inl upd_same), by unfold W45; decide, fun z => by cases z⟩⟩
        · exact ⟨q, by rw [e]; rfl, wk.same (same_new hqn)⟩
      obtain ⟨qo, eo, wo⟩ := own
      rw [eo]
      refine ⟨.ref qo, dw (f n).1 (f n).2, rfl, dWk wo, dD.1, dD.2.1, dD.2.2.1, dD.2.2.2, rfl, _, rfl, ifnd (fun z => absurd rfl z) (fun _ => ?_)⟩
      exact ⟨_, rfl, s5.trans (same_new hqn)⟩
    rintro σ H5 ⟨v2, rfl, s5⟩
    have c5 := (hc.same s3).same s5
    have S5 := s3.trans s5
    refine ⟨_, rfl, c, _, rfl, c5.ins, rfl, c, L, _, _, rfl, c5, fun q4 H12 s12 hq4 hq42 => ?_⟩
    have k12 := (hb.same S5).same s12
    refine ⟨_, rfl, D, kvs, ks, rfl, .of k12.at', ek, by omega, fun zs q5 hpz hsz hq5 => ?_⟩
    have em := marked_eq k12 ek hpz hsz
    have lz : zs.length = ks.length := hpz.length_eq
    have s13 : Same H12 (upd H12 q5 (.lst (zs.map V.int))) := same_new hq5
    have f5 : (upd H12 q5 (.lst (zs.map V.int))) q5 = some (.lst (zs.map V.int)) := upd_same
    generalize upd H12 q5 (.lst (zs.map V.int)) = H13 at s13 f5 ⊢
    have k13 := k12.same s13
    refine ⟨q5, rfl, ⟨_, .of f5⟩, fun D2 hD2 => lc_it (walk_list (K := K) (a := q5) (xs := zs.map V.int)) (fun j H' => Same H13 H' ∧ H' D2 = some (.lst (((zs.take j).filter fun y => (f y.toNat).1).map V.int))) ⟨same_new hD2, upd_same⟩ (fun j H' _ p => .of (p.1 _ _ f5)) ?_ ?_⟩
    · rintro j x G G' hj ⟨sG, hl⟩ ⟨rfl, hx⟩
      rw [List.getElem?_map] at hx
      obtain ⟨y, hy, rfl⟩ := Option.map_eq_some_iff.mp hx
      have tk : zs.take (j + 1) = zs.take j ++ [y] := by rw [List.take_add_one, hy]; rfl
      obtain ⟨n, qy, hn, rfl, ev, wy⟩ := key_val k13 ek (hpz.mem_iff.mp (List.mem_of_getElem? hy))
      have get : DGet G' D (.int (n : Int)) (some (.ref qy)) := by rw [← ev]; exact DGet.k (k := .inl (n : Int)) (sG _ _ k13.at')
      refine ⟨rfl, ?_⟩
      refine ⟨_, rfl, _, rfl, D, .ref qy, rfl, get, qy, _, 0, _, rfl, rfl, (wy.same sG).at', atI_nat (j := 0) rfl, (f n).1, rfl, ifb (fun e => ?_) (fun e => ?_)⟩
      · refine ⟨_, rfl, _, hl, ?_, fun b o e' => by rw [upd_ne (ne_of_none e' hD2)]; exact sG b o e', ?_⟩
        · rw [List.length_map]
          have h1 := List.length_filter_le (fun y : Int => (f y.toNat).1) (zs.take j)
          rw [List.length_take] at h1
          exact szn (by omega)
        · rw [upd_same, tk, List.filter_append, List.map_append, show List.filter (fun y : Int => (f y.toNat).1) [(n : Int)] = [(n : Int)] from by rw [List.filter_cons, if_pos (show (f ((n : Int)).toNat).1 = true from e)]; rfl]
          rfl
      · refine ⟨sG, ?_⟩
        rw [tk, List.filter_append, show List.filter (fun y : Int => (f y.toNat).1) [(n : Int)] = [] from by rw [List.filter_cons, if_neg (show ¬ (f ((n : Int)).toNat).1 = true from fun z => by rw [show (f n).1 = true from z] at e; cases e)]; rfl, List.append_nil]
        exact hl
    · rintro G ⟨sG, hl⟩
      rw [List.length_map, List.take_length, ← em] at hl
      have h4 : G q4 = some (.lst ((((List.range 4096).filter fun (i : Nat) => (f i).1).map fun (i : Nat) => (i : Int)).map V.int)) := by
        rw [sG _ _ (s13 _ _ hq42), List.map_map]; rfl
      generalize ((List.range 4096).filter fun (i : Nat) => (f i).1).map (fun (i : Nat) => (i : Int)) = ms at hl h4
      have sh := ints_shaped ms
      refine ⟨.list (ms.map .int), .list (ms.map .int), .lst (.inl (.of h4)) (dp_ints ms), .lst (.inl (.of hl)) (dp_ints ms), sh, sh, ?_⟩
      rw [PySem.SeqAt.eqv_refl _ (PySem.SeqAt.canLay_of_shaped sh)]
      exact q _ ((S5.trans s12).trans (s13.trans sG))

def sp__law_emptied_so (K : PySem.W.Frag) : Sp := fun vs H Q _ => ∃ (w : Addr) (m : Bool) (b : Int), vs = [.ref w] ∧ Wd H w m b ∧ ∀ H', Same H H' → Q (.bl true) H'
theorem ok__law_emptied_so {f : Addr} {fd : FuncData} (F : Fun K "_law_emptied_so" "_law_emptied_so" s__law_emptied_so f fd) (T : Txt K w mg) (C_Cells___init__ : MkN P w K mg base "Cells" 1 (sp_Cells___init__ K)) (C_Cells_store : MthN (L2.CX P w) P w K mg base "Cells" "store" 5 ["self", "word", "offset", "what"] [] (sp_Cells_store K)) (C_Cells_poke : MthN (L2.CX P w) P w K mg base "Cells" "poke" 5 ["self", "word", "offset", "number"] [] (sp_Cells_poke K)) (C_Cells_lay : MthN CX0 P w K mg base "Cells" "lay" 5 ["self", "address", "word"] [] (sp_Cells_lay K)) (C_Cells_marked : MthN CX0 P w K mg base "Cells" "marked" 4 ["self", "low", "high"] [.int 0, .int 4096] (sp_Cells_marked K)) (C__law_made : Cal P w K mg base "_law_made" 2 ["_law_low", "_law_high", "_law_at", "_law_rights_here", "_law_kind"] (sp__law_made K)) (C_Cells_twin : MthN CX0 P w K mg base "Cells" "twin" 3 ["self"] [] (sp_Cells_twin K)) (C_Cells___eq__ : EqN P w K mg base "Cells" 1 (sp_Cells___eq__ K)) : FnOk P w K mg base CX0 6 f fd ["_law_word_here"] (sp__law_emptied_so K) := by
  refine F.ok sc__law_emptied_so (fun vs H Q E h => ?_) (fun cdv A outer s H vs Q E hr h => ?_)
  · obtain ⟨w, m, b, rfl, hw, q⟩ := h; rfl
  · obtain ⟨w, m, b, rfl, hw, q⟩ := h
    refine ⟨_, (pss_cons (ps_set (i := 1) sc__law_emptied_so.nd rfl (.inl rfl) (pe_mkN C_Cells___init__ (hr.mono (by decide))))
      (pss_cons (ps_expr (pe_mthN C_Cells_lay (hr.mono (by decide)) (pv 1) (pa_cons pe_int (pa_cons (pv 0) pa_nil))))
      (pss_cons (ps_expr (pe_mthN C_Cells_lay (hr.mono (by decide)) (pv 1) (pa_cons pe_int (pa_cons (pe_tup (pa_cons pe_bl (pa_cons pe_int pa_nil))) pa_nil))))
      (pss_cons (ps_set (i := 2) sc__law_emptied_so.nd rfl (.inl rfl) (pe_cal C__law_made (hr.mono (by decide)) (pa_cons pe_int (pa_cons pe_int (pa_cons pe_int (pa_cons pe_str (pa_cons pe_int pa_nil)))))))
      (pss_cons (ps_expr (pe_mthX0 C_Cells_store (hr.mono (by decide)) (pv 1) (pa_cons (pv 2) (pa_cons pe_int (pa_cons (pe_tup (pa_cons pe_bl (pa_cons pe_int pa_nil))) pa_nil)))))
      (pss_cons (ps_expr (pe_mthX0 C_Cells_poke (hr.mono (by decide)) (pv 1) (pa_cons (pv 2) (pa_cons pe_int (pa_cons pe_int pa_nil)))))
      (pss_cons (ps_expr (pe_mthX0 C_Cells_poke (hr.mono (by decide)) (pv 1) (pa_cons (pv 2) (pa_cons pe_int (pa_cons (pe_op op_pow pe_int pe_int) pa_nil)))))
      (pss_one (ps_ret (pe_and (pe_cmpR (r := rEqO K "Cells" (sp_Cells___eq__ K)) (op_eqO C_Cells___eq__ (hr.mono (by decide))) (pv 1) (pe_mkN C_Cells___init__ (hr.mono (by decide))) (nomark _)) (pe_and (pe_cmpR (r := rEqE K) (op_eqE hr.units) (pe_mthN0c C_Cells_marked (E := fun _ => E0) (hr.mono (by decide)) (fun σ pins H s e s' I c => pass0 pins σ H s e s' I c) (pv 1)) (pe_lst pa_nil) (nomark _)) (pe_one (pe_cmpR (r := rEqO K "Cells" (sp_Cells___eq__ K)) (op_eqO C_Cells___eq__ (hr.mono (by decide))) (pe_mthN0c C_Cells_twin (E := fun _ => E0) (hr.mono (by decide)) (fun σ pins H s e s' I c => pass0 pins σ H s e s' I c) (pv 1)) (pe_mkN C_Cells___init__ (hr.mono (by decide))) (nomark _)))))))))))))), ?_⟩
    refine fun C hC c dx hc hdx ndx => ⟨c, C, dx, rfl, hC, upd_same, fun L ws H5 sH5 hL5 cel => ⟨rfl, ?_⟩⟩
    have S6 : Same H (upd H5 c (.ins C dx [(Str.ofString "_words", .ref L)])) := fun b o e => by
      rw [upd_ne (ne_of_none e hc)]
      exact sH5 b o (by rw [upd_ne (ne_of_none e hc), upd_ne (ne_of_none e hdx)]; exact e)
    have hL : H L = none := by
      cases e : H L with
      | none => rfl
      | some o =>
        rw [upd_ne (ne_of_none e hc), upd_ne (ne_of_none e hdx), e] at hL5; cases hL5
    generalize upd H5 c (.ins C dx [(Str.ofString "_words", .ref L)]) = H6 at cel S6 ⊢
    clear sH5 hL5 hc hdx ndx
    -- a word, and the plain one over it
    have w6 := hw.same S6
    refine ⟨_, rfl, c, _, rfl, cel.ins, rfl, _, rfl, c, L, ws, _, w, m, b, 5, rfl, cel, w6, by decide, by decide, fun H7 s7 => ?_⟩
    have c7 := (cel.same s7).lay (w6.same s7).k (show 5 < 4096 by decide)
    have S7 := same_at (o := .lst (ws.set 5 (.ref w))) hL (S6.trans s7)
    change Cel K (upd H7 L (.lst (ws.set (Int.toNat 5) (.ref w)))) c L (ws.set (Int.toNat 5) (.ref w)) _ at c7
    change Same H (upd H7 L (.lst (ws.set (Int.toNat 5) (.ref w)))) at S7
    generalize upd H7 L (.lst (ws.set (Int.toNat 5) (.ref w))) = H8 at c7 S7 ⊢
    generalize ws.set (Int.toNat 5) (.ref w) = us at c7
    clear s7 w6 cel S6
    refine ⟨_, rfl, c, _, rfl, c7.ins, rfl, sz (by simp), fun q0 hq0 => ?_⟩
    have w0 : Wd (upd H8 q0 (.tup [.bl false, .int 0])) q0 false 0 := ⟨upd_same, by unfold W45; decide, fun z => by cases z⟩
    have c8 := c7.same (same_new (o := .tup [.bl false, .int 0]) hq0)
    have S8 := S7.trans (same_new (o := .tup [.bl false, .int 0]) hq0)
    generalize upd H8 q0 (.tup [.bl false, .int 0]) = H9 at w0 c8 S8 ⊢
    refine ⟨c, L, us, _, q0, false, 0, 5, rfl, c8, w0, by decide, by decide, fun H10 s10 => ?_⟩
    have c10 := (c8.same s10).lay (w0.same s10).k (show 5 < 4096 by decide)
    rw [lays_over, lays_const] at c10
    have S10 := same_at (o := .lst (us.set 5 (.ref q0))) hL (S8.trans s10)
    change Cel K (upd H10 L (.lst (us.set (Int.toNat 5) (.ref q0)))) c L (us.set (Int.toNat 5) (.ref q0)) _ at c10
    change Same H (upd H10 L (.lst (us.set (Int.toNat 5) (.ref q0)))) at S10
    generalize upd H10 L (.lst (us.set (Int.toNat 5) (.ref q0))) = H11 at c10 S10 ⊢
    generalize us.set (Int.toNat 5) (.ref q0) = ws1 at c10
    clear s10 w0 c8 S8 c7 S7 hq0
    -- a word to the cells 0 to 15
    obtain ⟨pl, el, ow⟩ := rvd (s := Str.ofString "rwsf") (by decide +kernel)
    have er : rtx pl = Str.ofString "rwsf" := (V.str.inj el).symm
    refine ⟨0, 16, 5, 0, pl, by rw [el]; rfl, ⟨by decide, by decide, by decide⟩, small_ex (by decide) (by decide), by decide, by decide, by decide, by decide, ow, fun s0 b0 qw K0 W s11 hqw w11 => ?_⟩
    have c11 := c10.same s11
    have S11 := S10.trans s11
    have mw : decide (119 ∈ (rtx pl).cps.toList) = true := by rw [er]; decide +kernel
    have d0 := due_nil (off := 0) W mw (by decide) (by decide)
    have d1 := due_nil (off := 1) W mw (by decide) (by decide)
    have d2 := due_nil (off := 2) W mw (by decide) (by decide)
    have a5 : fAt b0 = 5 := W.all.2.2.2.2.1
    clear c10 S10 s11
    refine ⟨_, rfl, c, _, rfl, c11.ins, rfl, _, rfl, sz (by simp), fun q5 hq5 => ?_⟩
    have w5 : Wd (upd K0 q5 (.tup [.bl false, .int 0])) q5 false 0 := ⟨upd_same, by unfold W45; decide, fun z => by cases z⟩
    have c12 := c11.same (same_new (o := .tup [.bl false, .int 0]) hq5)
    have S12 := S11.trans (same_new (o := .tup [.bl false, .int 0]) hq5)
    have w12 := w11.same (same_new (o := .tup [.bl false, .int 0]) hq5)
    generalize upd K0 q5 (.tup [.bl false, .int 0]) = H12 at w5 c12 S12 w12 ⊢
    refine ⟨c, L, ws1, _, qw, true, b0, 0, q5, false, 0, rfl, c12, w12, w5, by decide, by decide, fun _ i hi i4 H13 s13 => ?_, fun bad => absurd (store_nil d0) bad⟩
    have ei : i = 5 := by omega
    subst ei
    have c13 := (c12.same s13).lay (w5.same s13).k i4
    rw [lays_const] at c13
    have S13 := same_at (o := .lst (ws1.set 5 (.ref q5))) hL (S12.trans s13)
    have w13 := (w12.same s13).but (H' := upd H13 L (.lst (ws1.set 5 (.ref q5)))) (but_self (p := L)) (fun z => by subst z; have := (w12.same s13).at'; rw [(c12.same s13).lst] at this; cases this)
    generalize upd H13 L (.lst (ws1.set 5 (.ref q5))) = H14 at c13 S13 w13 ⊢
    generalize ws1.set 5 (.ref q5) = ws2 at c13
    clear c11 S11 w11 c12 S12 w12 w5 s13 hq5
    refine ⟨_, rfl, c, _, rfl, c13.ins, rfl, _, rfl, c, L, ws2, _, qw, true, b0, 1, 0, rfl, c13, w13, by decide, by decide, by decide, by decide, fun _ i hi i4 q6 H15 s15 w15 => ?_, fun bad => absurd d1 bad⟩
    have ei : i = 6 := by omega
    subst ei
    have c15 := (c13.same s15).lay w15.k i4
    rw [show ((fun _ => (false, (0 : Int))) 6 : Bool × Int).2 - ((fun _ => (false, (0 : Int))) 6 : Bool × Int).2 % 2 ^ 28 + 0 % 2 ^ 28 = 0 from by decide, lays_const] at c15
    have S15 := same_at (o := .lst (ws2.set 6 (.ref q6))) hL (S13.trans s15)
    have w16 := (w13.same s15).but (H' := upd H15 L (.lst (ws2.set 6 (.ref q6)))) (but_self (p := L)) (fun z => by subst z; have := (w13.same s15).at'; rw [(c13.same s15).lst] at this; cases this)
    generalize upd H15 L (.lst (ws2.set 6 (.ref q6))) = H16 at c15 S15 w16 ⊢
    generalize ws2.set 6 (.ref q6) = ws3 at c15
    clear c13 S13 w13 s15 w15
    refine ⟨_, rfl, c, _, rfl, c15.ins, rfl, _, rfl, _, _, rfl, rfl, ⟨by decide, by decide, by decide⟩, ?_⟩
    refine ⟨c, L, ws3, _, qw, true, b0, 2, _, rfl, c15, w16, by decide, by decide, by decide, by decide, fun _ i hi i4 q7 H17 s17 w17 => ?_, fun bad => absurd d2 bad⟩
    have ei : i = 7 := by omega
    subst ei
    have c17 := (c15.same s17).lay w17.k i4
    rw [show ((fun _ => (false, (0 : Int))) 7 : Bool × Int).2 - ((fun _ => (false, (0 : Int))) 7 : Bool × Int).2 % 2 ^ 28 + (2 : Int) ^ (28 : Int).toNat % 2 ^ 28 = 0 from by decide, lays_const] at c17
    have S17 := same_at (o := .lst (ws3.set 7 (.ref q7))) hL (S15.trans s17)
    generalize upd H17 L (.lst (ws3.set 7 (.ref q7))) = H18 at c17 S17 ⊢
    generalize ws3.set 7 (.ref q7) = ws4 at c17
    clear c15 S15 w16 s17 w17
    -- like new ones
    refine ⟨_, rfl, fun C2 hC2 c2 dx2 h1 h2 n12 => ⟨c2, C2, dx2, rfl, hC2, upd_same, fun L2' ws5 G5 sG5 hL25 cel2 => ⟨rfl, ?_⟩⟩⟩
    have S20 : Same H18 (upd G5 c2 (.ins C2 dx2 [(Str.ofString "_words", .ref L2')])) := fun b o e => by
      rw [upd_ne (ne_of_none e h1)]
      exact sG5 b o (by rw [upd_ne (ne_of_none e h1), upd_ne (ne_of_none e h2)]; exact e)
    generalize upd G5 c2 (.ins C2 dx2 [(Str.ofString "_words", .ref L2')]) = H19 at cel2 S20 ⊢
    have c19 := c17.same S20
    have S19 := S17.trans S20
    clear sG5 hL25 h1 h2 n12 c17 S17 S20
    refine ⟨c, _, rfl, c19.ins, .inl ⟨c2, _, rfl, cel2.ins⟩, c, L, _, _, _, rfl, c19, .inl ⟨c2, _, _, _, rfl, cel2, fun b hb => ⟨b, rfl, ?_⟩⟩⟩
    have eb : b = true := hb.mpr fun i hi => rfl
    subst eb
    refine ⟨_, rfl, ?_⟩
    refine ⟨_, rfl, c, _, rfl, c19.ins, rfl, c, L, _, _, rfl, c19, fun q8 H20 s20 hq8 hq82 => ⟨sz (by simp), fun L9 hL9 => ?_⟩⟩
    have hq82 : H20 q8 = some (.lst []) := by rw [hq82]; exact congrArg (fun l => some (HO.lst l)) filt_false
    refine ⟨q8, L9, [], rfl, rfl, same_new hL9 _ _ hq82, upd_same, ?_⟩
    refine ⟨_, rfl, ?_⟩
    have c21 := (c19.same s20).same (same_new (o := .lst []) hL9)
    have S21 := (S19.trans s20).trans (same_new (o := .lst []) hL9)
    generalize upd H20 L9 (.lst []) = H21 at c21 S21 ⊢
    clear c19 S19 cel2 hb s20 hq8 hq82 hL9
    refine ⟨_, rfl, c, _, rfl, c21.ins, rfl, c, L, _, _, rfl, c21, fun p2 L10 G s22 hp2 hL10 cG => ?_⟩
    refine fun C2 hC2 c2 dx2 h1 h2 n12 => ⟨c2, C2, dx2, rfl, hC2, upd_same, fun L2' ws5 G5 sG5 hL25 cel2 => ⟨rfl, ?_⟩⟩
    have S20 : Same G (upd G5 c2 (.ins C2 dx2 [(Str.ofString "_words", .ref L2')])) := fun b o e => by
      rw [upd_ne (ne_of_none e h1)]
      exact sG5 b o (by rw [upd_ne (ne_of_none e h1), upd_ne (ne_of_none e h2)]; exact e)
    generalize upd G5 c2 (.ins C2 dx2 [(Str.ofString "_words", .ref L2')]) = H19 at cel2 S20 ⊢
    have c19 := cG.same S20
    refine ⟨p2, _, rfl, c19.ins, .inl ⟨c2, _, rfl, cel2.ins⟩, p2, L10, _, _, _, rfl, c19, .inl ⟨c2, _, _, _, rfl, cel2, fun b hb => ⟨b, rfl, ?_⟩⟩⟩
    have eb : b = true := hb.mpr fun i hi => rfl
    subst eb
    exact q _ ((S21.trans s22).trans S20)

def sp__law_odd_so (K : PySem.W.Frag) : Sp := fun vs H Q _ => ∃ (c L w : Addr) (ws : List V) (f : Nat → Bool × Int), vs = [.ref c, .ref w] ∧ Cel K H c L ws f ∧ ∀ H', Same H H' → Q (.bl true) H'
theorem ok__law_odd_so {f : Addr} {fd : FuncData} (F : Fun K "_law_odd_so" "_law_odd_so" s__law_odd_so f fd) (T : Txt K w mg) (C_Cells_cell : MthN CX0 P w K mg base "Cells" "cell" 3 ["self", "address"] [] (sp_Cells_cell K)) (C__law_said : Cal P w K mg base "_law_said" 6 ["_law_cells", "_law_door", "_law_thing", "_law_word_here"] (sp__law_said K)) : FnG P w K mg base 7 f fd ["_law_cells", "_law_word_here"] (sp__law_odd_so K) := by
  refine fun_okG F sc__law_odd_so (fun vs H Q E h => ?_) (fun cdv A outer s H vs Q hr gd h => ?_)
  · obtain ⟨c, L, w, ws, f, rfl, hc, q⟩ := h; rfl
  · obtain ⟨c, L, w, ws, f, rfl, hc, q⟩ := h
    refine ⟨_, (pss_cons (ps_set (i := 3) sc__law_odd_so.nd rfl (.inl rfl) (pe_callB (call_reprD gd hr.units) (by rfl) T.z_repr (by decide +kernel) (pa_cons (pe_lc (own := [("_law_address", 2)]) rfl sc__law_odd_so.nd (pi_range1 (by rfl) T.z_range (pa_cons pe_int pa_nil)) (blkOk_by (own := [("_law_address", 2)]) (N := ["_law_cells", "_law_word_here", "_law_address", "_law_kept", "_law_thing", "_law_bad", "_law_door"]) (sc := defScope s__law_odd_so) (by decide +kernel)) (fun _ _ _ _ _ => (pg_name (i := 2) sc__law_odd_so.nd rfl (.inl rfl))) (fun _ _ _ _ _ => pts_nil) (fun _ _ _ _ _ => by exact (pe_mthNK (K := K) C_Cells_cell (hr.mono (by decide)) (by exact (pv 0)) (by exact (pa_cons (pv 2) pa_nil))))) pa_nil)))
      (pss_cons (ps_for PassesOwn.never rfl (pi_list (pe_lst (pa_cons pe_non (pa_cons pe_bl (pa_cons (pe_un un_neg pe_int) (pa_cons pe_int (pa_cons (pe_op op_pow pe_int pe_int) (pa_cons pe_str (pa_cons (pe_tup (pa_cons pe_int pa_nil)) (pa_cons (pe_lst (pa_cons pe_int pa_nil)) pa_nil)))))))))) (pg_name (i := 4) sc__law_odd_so.nd rfl (.inr rfl)) (pss_cons (ps_if (PW.pt (pw_or (pt_cmpR (r := rNeD K) (op_neD hr.units) (pe_cal C__law_said (hr.mono (by decide)) (pa_cons (pv 0) (pa_cons pe_int (pa_cons (pv 4) (pa_cons (pv 1) pa_nil))))) (pe_lst (pa_cons pe_int pa_nil)) (nomark _)) (pw_or1 (pt_cmpR (r := rNeD K) (op_neD hr.units) (pe_cal C__law_said (hr.mono (by decide)) (pa_cons (pv 0) (pa_cons pe_int (pa_cons (pv 4) (pa_cons (pv 1) pa_nil))))) (pe_lst (pa_cons pe_int pa_nil)) (nomark _))))) (pss_one (ps_ret pe_bl)) pss_nil)
      (pss_one (ps_if (PW.pt (pw_or (pt_cmpR (r := rNeD K) (op_neD hr.units) (pe_cal C__law_said (hr.mono (by decide)) (pa_cons (pv 0) (pa_cons pe_int (pa_cons (pv 4) (pa_cons (pv 1) pa_nil))))) (pe_lst (pa_cons pe_int pa_nil)) (nomark _)) (pw_or1 (pt_cmpR (r := rNeD K) (op_neD hr.units) (pe_cal C__law_said (hr.mono (by decide)) (pa_cons (pv 0) (pa_cons pe_int (pa_cons (pv 4) (pa_cons (pv 1) pa_nil))))) (pe_lst (pa_cons pe_int pa_nil)) (nomark _))))) (pss_one (ps_ret pe_bl)) pss_nil))))
      (pss_cons (ps_for PassesOwn.never rfl (pi_list (pe_lst (pa_cons pe_non (pa_cons pe_bl (pa_cons (pe_un un_neg pe_int) (pa_cons pe_int (pa_cons pe_int (pa_cons (pe_op op_pow pe_int pe_int) (pa_cons pe_str (pa_cons (pe_tup (pa_cons pe_int pa_nil)) (pa_cons (pe_lst (pa_cons pe_int pa_nil)) pa_nil))))))))))) (pg_name (i := 4) sc__law_odd_so.nd rfl (.inr rfl)) (pss_one (ps_if (PW.pt (pw_or (pt_cmpR (r := rNeD K) (op_neD hr.units) (pe_cal C__law_said (hr.mono (by decide)) (pa_cons (pv 0) (pa_cons pe_int (pa_cons (pv 4) (pa_cons (pv 1) pa_nil))))) (pe_lst (pa_cons pe_int pa_nil)) (nomark _)) (pw_or1 (pt_cmpR (r := rNeD K) (op_neD hr.units) (pe_cal C__law_said (hr.mono (by decide)) (pa_cons (pv 0) (pa_cons pe_int (pa_cons (pv 4) (pa_cons (pv 1) pa_nil))))) (pe_lst (pa_cons pe_int pa_nil)) (nomark _))))) (pss_one (ps_ret pe_bl)) pss_nil)))
      (pss_cons (ps_for PassesOwn.never rfl (pi_list (pe_lst (pa_cons (pe_tup (pa_cons pe_int (pa_cons pe_int pa_nil))) (pa_cons (pe_tup (pa_cons pe_int (pa_cons pe_int pa_nil))) (pa_cons (pe_tup (pa_cons pe_int (pa_cons pe_int pa_nil))) (pa_cons (pe_tup (pa_cons pe_int (pa_cons pe_int pa_nil))) pa_nil)))))) (pg_name (i := 4) sc__law_odd_so.nd rfl (.inr rfl)) (pss_one (ps_if (PW.pt (pw_or (pt_cmpR (r := rNeD K) (op_neD hr.units) (pe_cal C__law_said (hr.mono (by decide)) (pa_cons (pv 0) (pa_cons pe_int (pa_cons (pv 4) (pa_cons (pv 1) pa_nil))))) (pe_lst (pa_cons pe_int pa_nil)) (nomark _)) (pw_or1 (pt_cmpR (r := rNeD K) (op_neD hr.units) (pe_cal C__law_said (hr.mono (by decide)) (pa_cons (pv 0) (pa_cons pe_int (pa_cons (pv 4) (pa_cons (pv 1) pa_nil))))) (pe_lst (pa_cons pe_int pa_nil)) (nomark _))))) (pss_one (ps_ret pe_bl)) pss_nil)))
      (pss_cons (ps_if (pt_cmpR (r := rNeD K) (op_neD hr.units) (pe_lc (own := [("_law_thing", 4)]) rfl sc__law_odd_so.nd (pi_list (pe_lst (pa_cons (pe_un un_neg pe_int) (pa_cons pe_non (pa_cons pe_int pa_nil))))) (blkOk_by (own := [("_law_thing", 4)]) (N := ["_law_cells", "_law_word_here", "_law_address", "_law_kept", "_law_thing", "_law_bad", "_law_door"]) (sc := defScope s__law_odd_so) (by decide +kernel)) (fun _ _ _ _ _ => (pg_name (i := 4) sc__law_odd_so.nd rfl (.inl rfl))) (fun _ _ _ _ _ => pts_nil) (fun _ _ _ _ _ => (pe_cal C__law_said (hr.mono (by decide)) (pa_cons (pv 0) (pa_cons pe_int (pa_cons (pv 4) (pa_cons (pv 1) pa_nil))))))) (pe_lst (pa_cons (pe_lst (pa_cons pe_int pa_nil)) (pa_cons (pe_lst (pa_cons pe_int pa_nil)) (pa_cons (pe_lst (pa_cons pe_int pa_nil)) pa_nil)))) (nomark _)) (pss_one (ps_ret pe_bl)) pss_nil)
      (pss_cons (ps_set (i := 5) sc__law_odd_so.nd rfl (.inl rfl) (pe_lst (pa_cons pe_non (pa_cons pe_int (pa_cons (pe_tup (pa_cons pe_bl (pa_cons (pe_op op_pow pe_int pe_int) pa_nil))) (pa_cons (pe_tup (pa_cons pe_bl (pa_cons (pe_op op_shl pe_int pe_int) pa_nil))) (pa_cons (pe_tup (pa_cons pe_int (pa_cons pe_int pa_nil))) (pa_cons (pe_tup (pa_cons pe_bl (pa_cons (pe_un un_neg pe_int) pa_nil))) (pa_cons (pe_lst (pa_cons pe_bl (pa_cons pe_int pa_nil))) pa_nil)))))))))
      (pss_cons (ps_for PassesOwn.never rfl (pi_list (pe_op op_cat (pv 5) (pe_lst (pa_cons (pe_tup (pa_cons pe_bl (pa_cons (pe_op op_or (pe_op op_shl pe_int pe_int) (pe_op op_shl pe_int pe_int)) pa_nil))) pa_nil)))) (pg_name (i := 4) sc__law_odd_so.nd rfl (.inr rfl)) (pss_one (ps_if (pt_cmpR (r := rNeD K) (op_neD hr.units) (pe_cal C__law_said (hr.mono (by decide)) (pa_cons (pv 0) (pa_cons pe_int (pa_cons (pv 4) (pa_cons (pv 1) pa_nil))))) (pe_lst (pa_cons pe_int pa_nil)) (nomark _)) (pss_one (ps_ret pe_bl)) pss_nil)))
      (pss_cons (ps_for PassesOwn.never rfl (pi_list (pe_lst (pa_cons pe_non (pa_cons pe_bl (pa_cons (pe_un un_neg pe_int) (pa_cons pe_int (pa_cons pe_str (pa_cons (pe_tup (pa_cons pe_int pa_nil)) pa_nil)))))))) (pg_name (i := 4) sc__law_odd_so.nd rfl (.inr rfl)) (pss_one (ps_if (pt_cmpR (r := rNeD K) (op_neD hr.units) (pe_lc (own := [("_law_door", 6)]) rfl sc__law_odd_so.nd (pi_tup (pe_tup (pa_cons pe_int (pa_cons pe_int (pa_cons pe_int pa_nil))))) (blkOk_by (own := [("_law_door", 6)]) (N := ["_law_cells", "_law_word_here", "_law_address", "_law_kept", "_law_thing", "_law_bad", "_law_door"]) (sc := defScope s__law_odd_so) (by decide +kernel)) (fun _ _ _ _ _ => (pg_name (i := 6) sc__law_odd_so.nd rfl (.inl rfl))) (fun _ _ _ _ _ => pts_nil) (fun _ _ _ _ _ => (pe_cal C__law_said (hr.mono (by decide)) (pa_cons (pv 0) (pa_cons (pv 6) (pa_cons (pv 4) (pa_cons (pv 1) pa_nil))))))) (pe_op op_rep (pe_lst (pa_cons (pe_lst (pa_cons pe_int pa_nil)) pa_nil)) pe_int) (nomark _)) (pss_one (ps_ret pe_bl)) pss_nil)))
      (pss_one (ps_ret (pe_cmpR op_eq (pe_callB (call_reprD gd hr.units) (by rfl) T.z_repr (by decide +kernel) (pa_cons (pe_lc (own := [("_law_address", 2)]) rfl sc__law_odd_so.nd (pi_range1 (by rfl) T.z_range (pa_cons pe_int pa_nil)) (blkOk_by (own := [("_law_address", 2)]) (N := ["_law_cells", "_law_word_here", "_law_address", "_law_kept", "_law_thing", "_law_bad", "_law_door"]) (sc := defScope s__law_odd_so) (by decide +kernel)) (fun _ _ _ _ _ => (pg_name (i := 2) sc__law_odd_so.nd rfl (.inl rfl))) (fun _ _ _ _ _ => pts_nil) (fun _ _ _ _ _ => by exact (pe_mthNK (K := K) C_Cells_cell (hr.mono (by decide)) (by exact (pv 0)) (by exact (pa_cons (pv 2) pa_nil))))) pa_nil)) (pv 3) (nomark _)))))))))))), ?_⟩
    refine ⟨64, rfl, by decide, by decide, fun D hD => lc_gen (walk_range (lo := 0) (n := 64)) (fun _ => true) (fun i => ws.getD i .non) hD (szn (by decide)) (fun _ _ => trivial) ?_ ?_⟩
    · rintro i x G G' hi6 sG ⟨rfl, rfl⟩ k' m' hk hm
      have hi6 : i < 64 := hi6
      have cG := hc.same sG
      refine ⟨rfl, ?_⟩
      refine ⟨_, rfl, c, _, rfl, cG.ins, rfl, _, rfl, c, L, ws, f, _, rfl, cG, by omega, by omega, fun q5 e5 _ => ?_⟩
      have e : ws.getD i .non = .ref q5 := by
        rw [List.getD_eq_getElem?_getD, show ws[i]? = some (.ref q5) from by rw [← e5]; congr 1; omega]; rfl
      rw [← e]
      exact hk rfl _ (Same.refl _)
    intro G1 s1 hG1
    rw [filt_true] at hG1
    have c1 := hc.same s1
    obtain ⟨a1, a2, a3, a4⟩ := d64_fit (f := f) fun i hi => hc.w45 (by omega)
    refine ⟨.ref D, d64 f, rfl, .lst (.inl (.of hG1)) (dp_64 c1), a1, a2, a3, a4, ?_⟩
    clear hG1 hD
    
    refine ⟨_, rfl, _, _, rfl, rfl, ⟨by decide, by decide, by decide⟩, ?_⟩
    refine ⟨sz (by simp), fun t1 ht1 => ⟨sz (by simp), fun l1 hl1 => ⟨sz (by simp), fun Ls hLs => ?_⟩⟩⟩
    have e1 : (upd (upd (upd G1 t1 (.tup [.int 1])) l1 (.lst [.int 1])) Ls (.lst [V.non, .bl true, .int (-1), .int 4096, .int (10 ^ (20 : Int).toNat), .str (Str.ofString "1"), .ref t1, .ref l1])) t1 = some (.tup [.int 1]) := same_new hLs _ _ (same_new hl1 _ _ upd_same)
    have e2 : (upd (upd (upd G1 t1 (.tup [.int 1])) l1 (.lst [.int 1])) Ls (.lst [V.non, .bl true, .int (-1), .int 4096, .int (10 ^ (20 : Int).toNat), .str (Str.ofString "1"), .ref t1, .ref l1])) l1 = some (.lst [.int 1]) := same_new hLs _ _ upd_same
    have e3 : (upd (upd (upd G1 t1 (.tup [.int 1])) l1 (.lst [.int 1])) Ls (.lst [V.non, .bl true, .int (-1), .int 4096, .int (10 ^ (20 : Int).toNat), .str (Str.ofString "1"), .ref t1, .ref l1])) Ls = some (.lst [V.non, .bl true, .int (-1), .int 4096, .int (10 ^ (20 : Int).toNat), .str (Str.ofString "1"), .ref t1, .ref l1]) := upd_same
    have s2 : Same G1 (upd (upd (upd G1 t1 (.tup [.int 1])) l1 (.lst [.int 1])) Ls (.lst [V.non, .bl true, .int (-1), .int 4096, .int (10 ^ (20 : Int).toNat), .str (Str.ofString "1"), .ref t1, .ref l1])) := sameN (sameN (same_new ht1) hl1) hLs
    generalize upd (upd (upd G1 t1 (.tup [.int 1])) l1 (.lst [.int 1])) Ls (.lst [V.non, .bl true, .int (-1), .int 4096, .int (10 ^ (20 : Int).toNat), .str (Str.ofString "1"), .ref t1, .ref l1]) = G2 at e1 e2 e3 s2 ⊢
    have c2 := c1.same s2
    have t2 := s1.trans s2
    have odd : ∀ x ∈ ([V.non, .bl true, .int (-1), .int 4096, .int (10 ^ (20 : Int).toNat), .str (Str.ofString "1"), .ref t1, .ref l1] : List V), Odd G2 0 4095 x := by
      intro x hx
      simp only [List.mem_cons, List.not_mem_nil, or_false] at hx
      rcases hx with rfl | rfl | rfl | rfl | rfl | rfl | rfl | rfl
      · exact ⟨.non, fun n e => by cases e⟩
      · exact ⟨.bl _, fun n e => by cases e⟩
      · exact ⟨.int _, fun n e => by cases e; decide⟩
      · exact ⟨.int _, fun n e => by cases e; decide⟩
      · exact ⟨.int _, fun n e => by cases e; decide⟩
      · exact ⟨.str _, fun n e => by cases e⟩
      · exact ⟨.tup e1, fun n e => by cases e⟩
      · exact ⟨.lst e2, fun n e => by cases e⟩
    clear e1 e2 ht1 hl1 hLs c1 s2 s1
    refine ⟨Ls, rfl, ⟨_, .of e3⟩, for_list (K := K) (a := Ls) (xs := [V.non, .bl true, .int (-1), .int 4096, .int (10 ^ (20 : Int).toNat), .str (Str.ofString "1"), .ref t1, .ref l1]) (fun j σ H' => ∃ v4 v5 v6, σ = [some (.ref c), some (.ref w), none, some (.str (d64 f).shown), v4, v5, v6] ∧ Same G2 H') ⟨_, _, _, rfl, Same.refl _⟩ (fun j σ H' _ ⟨_, _, _, _, sm⟩ => .of (sm _ _ e3)) ?_ ?_⟩
    · rintro j x σ G3 hx ⟨v4, v5, v6, rfl, s3⟩
      have ho := (odd x (List.mem_of_getElem? hx)).same s3
      have c3 := c2.same s3
      have t3 := t2.trans s3
      have b3 := due_low ho
      refine ⟨_, rfl, _, rfl, _, rfl, c, L, ws, f, 0, x, w, 0, rfl, by decide, c3, (due_adr ho (.inl rfl)), fun p1 J1 sJ np1 fp1 => ⟨sz (by simp), fun p2 hp2 => ?_⟩⟩
      refine ⟨.list [.int 0], .list [.int 0], .lst (.inl (.of (same_new hp2 _ _ fp1))) (.cons (.int _) .nil), .lst (.inl (.of upd_same)) (.cons (.int _) .nil), ints_shaped [0], ints_shaped [0], _, rfl, ifnb (fun e => by rw [eqv1] at e; cases e) (fun _ => ?_)⟩
      have s4 : Same G3 (upd J1 p2 (.lst [.int 0])) := sJ.trans (same_new hp2)
      have c4 := c3.same s4
      have t4 := t3.trans s4
      generalize upd J1 p2 (.lst [.int 0]) = G4 at s4 c4 t4 ⊢
      clear sJ np1 fp1 hp2
      refine ⟨_, rfl, _, rfl, _, rfl, c, L, ws, f, 1, x, w, 0, rfl, by decide, c4, (due_adr (ho.same s4) (.inr rfl)), fun p1 J1 sJ np1 fp1 => ⟨sz (by simp), fun p2 hp2 => ?_⟩⟩
      refine ⟨.list [.int 0], .list [.int 0], .lst (.inl (.of (same_new hp2 _ _ fp1))) (.cons (.int _) .nil), .lst (.inl (.of upd_same)) (.cons (.int _) .nil), ints_shaped [0], ints_shaped [0], _, rfl, ifnb (fun e => by rw [eqv1] at e; cases e) (fun _ => ?_)⟩
      have s5 : Same G4 (upd J1 p2 (.lst [.int 0])) := sJ.trans (same_new hp2)
      have c5 := c4.same s5
      have t5 := t4.trans s5
      generalize upd J1 p2 (.lst [.int 0]) = G5 at s5 c5 t5 ⊢
      clear sJ np1 fp1 hp2
      refine ⟨_, rfl, _, rfl, _, rfl, c, L, ws, f, 6, x, w, 3, rfl, by decide, c5, (due_low6 (b3.same (s4.trans s5)) (.inl rfl)), fun p1 J1 sJ np1 fp1 => ⟨sz (by simp), fun p2 hp2 => ?_⟩⟩
      refine ⟨.list [.int 3], .list [.int 3], .lst (.inl (.of (same_new hp2 _ _ fp1))) (.cons (.int _) .nil), .lst (.inl (.of upd_same)) (.cons (.int _) .nil), ints_shaped [3], ints_shaped [3], _, rfl, ifnb (fun e => by rw [eqv1] at e; cases e) (fun _ => ?_)⟩
      have s6 : Same G5 (upd J1 p2 (.lst [.int 3])) := sJ.trans (same_new hp2)
      have c6 := c5.same s6
      have t6 := t5.trans s6
      generalize upd J1 p2 (.lst [.int 3]) = G6 at s6 c6 t6 ⊢
      clear sJ np1 fp1 hp2
      refine ⟨_, rfl, _, rfl, _, rfl, c, L, ws, f, 7, x, w, 3, rfl, by decide, c6, (due_low6 (b3.same ((s4.trans s5).trans s6)) (.inr rfl)), fun p1 J1 sJ np1 fp1 => ⟨sz (by simp), fun p2 hp2 => ?_⟩⟩
      refine ⟨.list [.int 3], .list [.int 3], .lst (.inl (.of (same_new hp2 _ _ fp1))) (.cons (.int _) .nil), .lst (.inl (.of upd_same)) (.cons (.int _) .nil), ints_shaped [3], ints_shaped [3], _, rfl, ifnb (fun e => by rw [eqv1] at e; cases e) (fun _ => ?_)⟩
      have s7 : Same G6 (upd J1 p2 (.lst [.int 3])) := sJ.trans (same_new hp2)
      have c7 := c6.same s7
      have t7 := t6.trans s7
      generalize upd J1 p2 (.lst [.int 3]) = G7 at s7 c7 t7 ⊢
      clear sJ np1 fp1 hp2
      exact ⟨_, _, _, rfl, ((((s3.trans s4).trans s5).trans s6).trans s7)⟩
    clear odd e3
    rintro σ G10 ⟨v4, v5, v6, rfl, s10⟩
    have c10 := c2.same s10
    have t10 := t2.trans s10
    clear c2 t2 s10
    
    
    refine ⟨_, rfl, _, _, rfl, rfl, ⟨by decide, by decide, by decide⟩, ?_⟩
    refine ⟨sz (by simp), fun ta hta => ⟨sz (by simp), fun la hla => ⟨sz (by simp), fun Ls hLs => ?_⟩⟩⟩
    have eta : (upd (upd (upd G10 ta (.tup [.int 4])) la (.lst [.int 4])) Ls (.lst [V.non, .bl true, .int (-1), .int 0, .int 4097, .int (10 ^ (20 : Int).toNat), .str (Str.ofString "4"), .ref ta, .ref la])) ta = some (.tup [.int 4]) := (same_new hLs _ _ (same_new hla _ _ upd_same))
    have ela : (upd (upd (upd G10 ta (.tup [.int 4])) la (.lst [.int 4])) Ls (.lst [V.non, .bl true, .int (-1), .int 0, .int 4097, .int (10 ^ (20 : Int).toNat), .str (Str.ofString "4"), .ref ta, .ref la])) la = some (.lst [.int 4]) := (same_new hLs _ _ upd_same)
    have eLs : (upd (upd (upd G10 ta (.tup [.int 4])) la (.lst [.int 4])) Ls (.lst [V.non, .bl true, .int (-1), .int 0, .int 4097, .int (10 ^ (20 : Int).toNat), .str (Str.ofString "4"), .ref ta, .ref la])) Ls = some (.lst [V.non, .bl true, .int (-1), .int 0, .int 4097, .int (10 ^ (20 : Int).toNat), .str (Str.ofString "4"), .ref ta, .ref la]) := upd_same
    have s11 : Same G10 (upd (upd (upd G10 ta (.tup [.int 4])) la (.lst [.int 4])) Ls (.lst [V.non, .bl true, .int (-1), .int 0, .int 4097, .int (10 ^ (20 : Int).toNat), .str (Str.ofString "4"), .ref ta, .ref la])) := (sameN (sameN (same_new hta) hla) hLs)
    generalize upd (upd (upd G10 ta (.tup [.int 4])) la (.lst [.int 4])) Ls (.lst [V.non, .bl true, .int (-1), .int 0, .int 4097, .int (10 ^ (20 : Int).toNat), .str (Str.ofString "4"), .ref ta, .ref la]) = G11 at eta ela eLs s11 ⊢
    clear hta hla hLs
    have c11 := c10.same s11
    have t11 := t10.trans s11
    have odd : ∀ x ∈ ([V.non, .bl true, .int (-1), .int 0, .int 4097, .int (10 ^ (20 : Int).toNat), .str (Str.ofString "4"), .ref ta, .ref la] : List V), NoBd G11 (.int 0) x := by
      have nz : ∀ n : Int, ¬ (1 ≤ n ∧ n ≤ 4096) → NoBd G11 (.int 0) (.int n) := fun n hn => ⟨.int _, .int _, fun a b e1 e2 bd => by
        cases e1; cases e2
        obtain ⟨b0, b1, b2⟩ := bd
        omega⟩
      intro x hx
      simp only [List.mem_cons, List.not_mem_nil, or_false] at hx
      rcases hx with rfl | rfl | rfl | rfl | rfl | rfl | rfl | rfl | rfl
      · exact ⟨.int _, .non, fun _ _ _ e => by cases e⟩
      · exact ⟨.int _, .bl _, fun _ _ _ e => by cases e⟩
      · exact nz _ (by decide)
      · exact nz _ (by decide)
      · exact nz _ (by decide)
      · exact nz _ (by decide)
      · exact ⟨.int _, .str _, fun _ _ _ e => by cases e⟩
      · exact ⟨.int _, .tup eta, fun _ _ _ e => by cases e⟩
      · exact ⟨.int _, .lst ela, fun _ _ _ e => by cases e⟩
    clear eta ela c10 t10 s11
    refine ⟨Ls, rfl, ⟨_, .of eLs⟩, for_list (K := K) (a := Ls) (xs := [V.non, .bl true, .int (-1), .int 0, .int 4097, .int (10 ^ (20 : Int).toNat), .str (Str.ofString "4"), .ref ta, .ref la]) (fun j σ H' => ∃ v4 v5 v6, σ = [some (.ref c), some (.ref w), none, some (.str (d64 f).shown), v4, v5, v6] ∧ Same G11 H') ⟨_, _, _, rfl, Same.refl _⟩ (fun j σ H' _ ⟨_, _, _, _, sm⟩ => .of (sm _ _ eLs)) ?_ ?_⟩
    · rintro j x σ G12 hx ⟨v4, v5, v6, rfl, s12⟩
      have ho := (odd x (List.mem_of_getElem? hx)).same s12
      have c12 := c11.same s12
      have t12 := t11.trans s12
      refine ⟨_, rfl, _, rfl, _, rfl, c, L, ws, f, 8, x, w, 3, rfl, by decide, c12, (due_high ho (.inl rfl)), fun p1 J1 sJ np1 fp1 => ⟨sz (by simp), fun p2 hp2 => ?_⟩⟩
      refine ⟨.list [.int 3], .list [.int 3], .lst (.inl (.of (same_new hp2 _ _ fp1))) (.cons (.int _) .nil), .lst (.inl (.of upd_same)) (.cons (.int _) .nil), ints_shaped [3], ints_shaped [3], _, rfl, ifnb (fun e => by rw [eqv1] at e; cases e) (fun _ => ?_)⟩
      have s13 : Same G12 (upd J1 p2 (.lst [.int 3])) := sJ.trans (same_new hp2)
      have c13 := c12.same s13
      have t13 := t12.trans s13
      generalize upd J1 p2 (.lst [.int 3]) = G13 at s13 c13 t13 ⊢
      clear sJ np1 fp1 hp2
      refine ⟨_, rfl, _, rfl, _, rfl, c, L, ws, f, 9, x, w, 3, rfl, by decide, c13, (due_high (ho.same s13) (.inr rfl)), fun p1 J1 sJ np1 fp1 => ⟨sz (by simp), fun p2 hp2 => ?_⟩⟩
      refine ⟨.list [.int 3], .list [.int 3], .lst (.inl (.of (same_new hp2 _ _ fp1))) (.cons (.int _) .nil), .lst (.inl (.of upd_same)) (.cons (.int _) .nil), ints_shaped [3], ints_shaped [3], _, rfl, ifnb (fun e => by rw [eqv1] at e; cases e) (fun _ => ?_)⟩
      have s14 : Same G13 (upd J1 p2 (.lst [.int 3])) := sJ.trans (same_new hp2)
      have c14 := c13.same s14
      have t14 := t13.trans s14
      generalize upd J1 p2 (.lst [.int 3]) = G14 at s14 c14 t14 ⊢
      clear sJ np1 fp1 hp2
      exact ⟨_, _, _, rfl, ((s12.trans s13).trans s14)⟩
    clear odd eLs
    rintro σ G20 ⟨v4, v5, v6, rfl, s20⟩
    have c20 := c11.same s20
    have t20 := t11.trans s20
    clear c11 t11 s20
    
    refine ⟨sz (by simp), fun ta hta => ⟨sz (by simp), fun tb htb => ⟨sz (by simp), fun tc htc => ⟨sz (by simp), fun td htd => ⟨sz (by simp), fun Ls hLs => ?_⟩⟩⟩⟩⟩
    have eta : (upd (upd (upd (upd (upd G20 ta (.tup [.int 5, .int 4])) tb (.tup [.int 4, .int 4])) tc (.tup [.int 4096, .int 4096])) td (.tup [.int 4095, .int 4097])) Ls (.lst [V.ref ta, .ref tb, .ref tc, .ref td])) ta = some (.tup [.int 5, .int 4]) := (same_new hLs _ _ (same_new htd _ _ (same_new htc _ _ (same_new htb _ _ upd_same))))
    have etb : (upd (upd (upd (upd (upd G20 ta (.tup [.int 5, .int 4])) tb (.tup [.int 4, .int 4])) tc (.tup [.int 4096, .int 4096])) td (.tup [.int 4095, .int 4097])) Ls (.lst [V.ref ta, .ref tb, .ref tc, .ref td])) tb = some (.tup [.int 4, .int 4]) := (same_new hLs _ _ (same_new htd _ _ (same_new htc _ _ upd_same)))
    have etc : (upd (upd (upd (upd (upd G20 ta (.tup [.int 5, .int 4])) tb (.tup [.int 4, .int 4])) tc (.tup [.int 4096, .int 4096])) td (.tup [.int 4095, .int 4097])) Ls (.lst [V.ref ta, .ref tb, .ref tc, .ref td])) tc = some (.tup [.int 4096, .int 4096]) := (same_new hLs _ _ (same_new htd _ _ upd_same))
    have etd : (upd (upd (upd (upd (upd G20 ta (.tup [.int 5, .int 4])) tb (.tup [.int 4, .int 4])) tc (.tup [.int 4096, .int 4096])) td (.tup [.int 4095, .int 4097])) Ls (.lst [V.ref ta, .ref tb, .ref tc, .ref td])) td = some (.tup [.int 4095, .int 4097]) := (same_new hLs _ _ upd_same)
    have eLs : (upd (upd (upd (upd (upd G20 ta (.tup [.int 5, .int 4])) tb (.tup [.int 4, .int 4])) tc (.tup [.int 4096, .int 4096])) td (.tup [.int 4095, .int 4097])) Ls (.lst [V.ref ta, .ref tb, .ref tc, .ref td])) Ls = some (.lst [V.ref ta, .ref tb, .ref tc, .ref td]) := upd_same
    have s21 : Same G20 (upd (upd (upd (upd (upd G20 ta (.tup [.int 5, .int 4])) tb (.tup [.int 4, .int 4])) tc (.tup [.int 4096, .int 4096])) td (.tup [.int 4095, .int 4097])) Ls (.lst [V.ref ta, .ref tb, .ref tc, .ref td])) := (sameN (sameN (sameN (sameN (same_new hta) htb) htc) htd) hLs)
    generalize upd (upd (upd (upd (upd G20 ta (.tup [.int 5, .int 4])) tb (.tup [.int 4, .int 4])) tc (.tup [.int 4096, .int 4096])) td (.tup [.int 4095, .int 4097])) Ls (.lst [V.ref ta, .ref tb, .ref tc, .ref td]) = G21 at eta etb etc etd eLs s21 ⊢
    clear hta htb htc htd hLs
    have c21 := c20.same s21
    have t21 := t20.trans s21
    have odd : ∀ x ∈ ([V.ref ta, .ref tb, .ref tc, .ref td] : List V), ∃ p a b, x = .ref p ∧ G21 p = some (.tup [a, b]) ∧ NoBd G21 a b := by
      have nz : ∀ l h : Int, ¬ (0 ≤ l ∧ l < h ∧ h ≤ 4096) → NoBd G21 (.int l) (.int h) := fun l h hn => ⟨.int _, .int _, fun a b e1 e2 bd => by
        cases e1; cases e2
        exact hn bd⟩
      intro x hx
      simp only [List.mem_cons, List.not_mem_nil, or_false] at hx
      rcases hx with rfl | rfl | rfl | rfl
      · exact ⟨_, _, _, rfl, eta, nz _ _ (by decide)⟩
      · exact ⟨_, _, _, rfl, etb, nz _ _ (by decide)⟩
      · exact ⟨_, _, _, rfl, etc, nz _ _ (by decide)⟩
      · exact ⟨_, _, _, rfl, etd, nz _ _ (by decide)⟩
    clear eta etb etc etd c20 t20 s21
    refine ⟨Ls, rfl, ⟨_, .of eLs⟩, for_list (K := K) (a := Ls) (xs := [V.ref ta, .ref tb, .ref tc, .ref td]) (fun j σ H' => ∃ v4 v5 v6, σ = [some (.ref c), some (.ref w), none, some (.str (d64 f).shown), v4, v5, v6] ∧ Same G21 H') ⟨_, _, _, rfl, Same.refl _⟩ (fun j σ H' _ ⟨_, _, _, _, sm⟩ => .of (sm _ _ eLs)) ?_ ?_⟩
    · rintro j x σ G22 hx ⟨v4, v5, v6, rfl, s22⟩
      obtain ⟨tp, ua, ub, rfl, hu, ho⟩ := odd x (List.mem_of_getElem? hx)
      have hu := s22 _ _ hu
      have ho := ho.same s22
      have c22 := c21.same s22
      have t22 := t21.trans s22
      refine ⟨_, rfl, _, rfl, _, rfl, c, L, ws, f, 10, (.ref tp), w, 3, rfl, by decide, c22, (due_both ⟨_, _, _, rfl, hu, ho⟩ (.inl rfl)), fun p1 J1 sJ np1 fp1 => ⟨sz (by simp), fun p2 hp2 => ?_⟩⟩
      refine ⟨.list [.int 3], .list [.int 3], .lst (.inl (.of (same_new hp2 _ _ fp1))) (.cons (.int _) .nil), .lst (.inl (.of upd_same)) (.cons (.int _) .nil), ints_shaped [3], ints_shaped [3], _, rfl, ifnb (fun e => by rw [eqv1] at e; cases e) (fun _ => ?_)⟩
      have s23 : Same G22 (upd J1 p2 (.lst [.int 3])) := sJ.trans (same_new hp2)
      have c23 := c22.same s23
      have t23 := t22.trans s23
      generalize upd J1 p2 (.lst [.int 3]) = G23 at s23 c23 t23 ⊢
      clear sJ np1 fp1 hp2
      refine ⟨_, rfl, _, rfl, _, rfl, c, L, ws, f, 11, (.ref tp), w, 3, rfl, by decide, c23, (due_both ⟨_, _, _, rfl, s23 _ _ hu, ho.same s23⟩ (.inr rfl)), fun p1 J1 sJ np1 fp1 => ⟨sz (by simp), fun p2 hp2 => ?_⟩⟩
      refine ⟨.list [.int 3], .list [.int 3], .lst (.inl (.of (same_new hp2 _ _ fp1))) (.cons (.int _) .nil), .lst (.inl (.of upd_same)) (.cons (.int _) .nil), ints_shaped [3], ints_shaped [3], _, rfl, ifnb (fun e => by rw [eqv1] at e; cases e) (fun _ => ?_)⟩
      have s24 : Same G23 (upd J1 p2 (.lst [.int 3])) := sJ.trans (same_new hp2)
      have c24 := c23.same s24
      have t24 := t23.trans s24
      generalize upd J1 p2 (.lst [.int 3]) = G24 at s24 c24 t24 ⊢
      clear sJ np1 fp1 hp2
      exact ⟨_, _, _, rfl, ((s22.trans s23).trans s24)⟩
    clear odd eLs
    rintro σ G30 ⟨v4, v5, v6, rfl, s30⟩
    have c30 := c21.same s30
    have t30 := t21.trans s30
    clear c21 t21 s30
    
    
    refine ⟨_, rfl, sz (by simp), fun Ls hLs => ?_⟩
    have eLs : (upd G30 Ls (.lst [V.int (-1), .non, .int 5])) Ls = some (.lst [V.int (-1), .non, .int 5]) := upd_same
    have s31 : Same G30 (upd G30 Ls (.lst [V.int (-1), .non, .int 5])) := (same_new hLs)
    generalize upd G30 Ls (.lst [V.int (-1), .non, .int 5]) = G31 at eLs s31 ⊢
    clear hLs
    have c31 := c30.same s31
    have t31 := t30.trans s31
    clear c30 t30 s31
    refine ⟨Ls, rfl, ⟨_, .of eLs⟩, fun D2 hD2 => lc_data K (walk_list (K := K) (a := Ls) (xs := [V.int (-1), .non, .int 5])) (fun i => [PyData.list [.int 0], .list [.int 0], .list [.int 1]].getD i .none) hD2 (szn (by decide)) (fun G s => .of (s _ _ eLs)) ?_ ?_⟩
    · rintro i x G G' hi sG fr ⟨rfl, hx⟩ k' m' hk
      have cG := c31.same sG
      obtain ⟨kk, due, dk⟩ : ∃ kk : Nat, DueBad G' 12 x kk ∧ [PyData.list [.int 0], .list [.int 0], .list [.int 1]].getD i .none = .list [.int (kk : Int)] := by
        have hi : i < 3 := hi
        have hi : i = 0 ∨ i = 1 ∨ i = 2 := by omega
        rcases hi with rfl | rfl | rfl
        · cases hx; exact ⟨0, due_rest0 ⟨.int _, fun n e => by cases e; decide⟩, rfl⟩
        · cases hx; exact ⟨0, due_rest0 ⟨.non, fun n e => by cases e⟩, rfl⟩
        · cases hx; exact ⟨1, due_rest1, rfl⟩
      refine ⟨rfl, ?_⟩
      refine ⟨_, rfl, _, rfl, _, rfl, c, L, ws, f, 12, x, w, kk, rfl, by decide, cG, due, fun p1 J1 sJ np1 fp1 => ?_⟩
      refine hk _ _ sJ ?_
      rw [dk]
      exact .lst (.inl (.of (hid_at (fr _ np1) fp1))) (.cons (.int _) .nil)
    intro G acc sG hG dG
    clear hD2
    refine ⟨sz (by simp), fun ra hra => ⟨sz (by simp), fun rb hrb => ⟨sz (by simp), fun rc hrc => ⟨sz (by simp), fun rl hrl => ?_⟩⟩⟩⟩
    have hG2 : (upd (upd (upd (upd G ra (.lst [.int 0])) rb (.lst [.int 0])) rc (.lst [.int 1])) rl (.lst [.ref ra, .ref rb, .ref rc])) D2 = some (.lst acc) := same_new hrl _ _ (same_new hrc _ _ (same_new hrb _ _ (same_new hra _ _ hG)))
    have dG2 : DpAll K (upd (upd (upd (upd G ra (.lst [.int 0])) rb (.lst [.int 0])) rc (.lst [.int 1])) rl (.lst [.ref ra, .ref rb, .ref rc])) acc _ := DpAll.sm (sameN (sameN (sameN (same_new (H := G) (o := .lst [.int 0]) hra) hrb) hrc) hrl) dG
    have era : (upd (upd (upd (upd G ra (.lst [.int 0])) rb (.lst [.int 0])) rc (.lst [.int 1])) rl (.lst [.ref ra, .ref rb, .ref rc])) ra = some (.lst [.int 0]) := (same_new hrl _ _ (same_new hrc _ _ (same_new hrb _ _ upd_same)))
    have erb : (upd (upd (upd (upd G ra (.lst [.int 0])) rb (.lst [.int 0])) rc (.lst [.int 1])) rl (.lst [.ref ra, .ref rb, .ref rc])) rb = some (.lst [.int 0]) := (same_new hrl _ _ (same_new hrc _ _ upd_same))
    have erc : (upd (upd (upd (upd G ra (.lst [.int 0])) rb (.lst [.int 0])) rc (.lst [.int 1])) rl (.lst [.ref ra, .ref rb, .ref rc])) rc = some (.lst [.int 1]) := (same_new hrl _ _ upd_same)
    have erl : (upd (upd (upd (upd G ra (.lst [.int 0])) rb (.lst [.int 0])) rc (.lst [.int 1])) rl (.lst [.ref ra, .ref rb, .ref rc])) rl = some (.lst [.ref ra, .ref rb, .ref rc]) := upd_same
    have s32 : Same G (upd (upd (upd (upd G ra (.lst [.int 0])) rb (.lst [.int 0])) rc (.lst [.int 1])) rl (.lst [.ref ra, .ref rb, .ref rc])) := (sameN (sameN (sameN (same_new hra) hrb) hrc) hrl)
    generalize upd (upd (upd (upd G ra (.lst [.int 0])) rb (.lst [.int 0])) rc (.lst [.int 1])) rl (.lst [.ref ra, .ref rb, .ref rc]) = G32 at hG2 dG2 era erb erc erl s32 ⊢
    clear hra hrb hrc hrl
    have c32 := (c31.same sG).same s32
    have t32 := (t31.trans sG).trans s32
    refine ⟨.list ((List.range 3).map fun i => [PyData.list [.int 0], .list [.int 0], .list [.int 1]].getD i .none), .list [PyData.list [.int 0], .list [.int 0], .list [.int 1]], .lst (.inl (.of hG2)) dG2, .lst (.inl (.of erl)) (.cons (.lst (.inl (.of era)) (.cons (.int _) .nil)) (.cons (.lst (.inl (.of erb)) (.cons (.int _) .nil)) (.cons (.lst (.inl (.of erc)) (.cons (.int _) .nil)) .nil))), sh3, sh3, _, rfl, ifnb (fun e => by rw [show PyData.eqv (.list ((List.range 3).map fun i => [PyData.list [.int 0], .list [.int 0], .list [.int 1]].getD i .none)) (.list [PyData.list [.int 0], .list [.int 0], .list [.int 1]]) = true from PySem.SeqAt.eqv_refl _ (PySem.SeqAt.canLay_of_shaped sh3)] at e; cases e) (fun _ => ?_)⟩
    clear era erb erc erl eLs c31 t31 sG s32 hG2 dG2 hG dG
    
    refine ⟨_, _, rfl, rfl, ⟨by decide, by decide, by decide⟩, sz (by simp), fun ta hta => ?_⟩
    refine ⟨_, _, rfl, rfl, ⟨by decide, by decide⟩, sz (by simp), fun tb htb => ?_⟩
    refine ⟨sz (by simp), fun tc htc => ⟨_, rfl, sz (by simp), fun td htd => ⟨sz (by simp), fun te hte => ⟨sz (by simp), fun Lb hLb => ?_⟩⟩⟩⟩
    have eta : (upd (upd (upd (upd (upd (upd G32 ta (.tup [.bl true, .int ((2 : Int) ^ (45 : Int).toNat)])) tb (.tup [.bl true, .int ((9 : Int) * 2 ^ (28 : Int).toNat)])) tc (.tup [.int 1, .int 5])) td (.tup [.bl false, .int (-1)])) te (.lst [.bl false, .int 0])) Lb (.lst [V.non, .int 5, .ref ta, .ref tb, .ref tc, .ref td, .ref te])) ta = some (.tup [.bl true, .int ((2 : Int) ^ (45 : Int).toNat)]) := (same_new hLb _ _ (same_new hte _ _ (same_new htd _ _ (same_new htc _ _ (same_new htb _ _ upd_same)))))
    have etb : (upd (upd (upd (upd (upd (upd G32 ta (.tup [.bl true, .int ((2 : Int) ^ (45 : Int).toNat)])) tb (.tup [.bl true, .int ((9 : Int) * 2 ^ (28 : Int).toNat)])) tc (.tup [.int 1, .int 5])) td (.tup [.bl false, .int (-1)])) te (.lst [.bl false, .int 0])) Lb (.lst [V.non, .int 5, .ref ta, .ref tb, .ref tc, .ref td, .ref te])) tb = some (.tup [.bl true, .int ((9 : Int) * 2 ^ (28 : Int).toNat)]) := (same_new hLb _ _ (same_new hte _ _ (same_new htd _ _ (same_new htc _ _ upd_same))))
    have etc : (upd (upd (upd (upd (upd (upd G32 ta (.tup [.bl true, .int ((2 : Int) ^ (45 : Int).toNat)])) tb (.tup [.bl true, .int ((9 : Int) * 2 ^ (28 : Int).toNat)])) tc (.tup [.int 1, .int 5])) td (.tup [.bl false, .int (-1)])) te (.lst [.bl false, .int 0])) Lb (.lst [V.non, .int 5, .ref ta, .ref tb, .ref tc, .ref td, .ref te])) tc = some (.tup [.int 1, .int 5]) := (same_new hLb _ _ (same_new hte _ _ (same_new htd _ _ upd_same)))
    have etd : (upd (upd (upd (upd (upd (upd G32 ta (.tup [.bl true, .int ((2 : Int) ^ (45 : Int).toNat)])) tb (.tup [.bl true, .int ((9 : Int) * 2 ^ (28 : Int).toNat)])) tc (.tup [.int 1, .int 5])) td (.tup [.bl false, .int (-1)])) te (.lst [.bl false, .int 0])) Lb (.lst [V.non, .int 5, .ref ta, .ref tb, .ref tc, .ref td, .ref te])) td = some (.tup [.bl false, .int (-1)]) := (same_new hLb _ _ (same_new hte _ _ upd_same))
    have ete : (upd (upd (upd (upd (upd (upd G32 ta (.tup [.bl true, .int ((2 : Int) ^ (45 : Int).toNat)])) tb (.tup [.bl true, .int ((9 : Int) * 2 ^ (28 : Int).toNat)])) tc (.tup [.int 1, .int 5])) td (.tup [.bl false, .int (-1)])) te (.lst [.bl false, .int 0])) Lb (.lst [V.non, .int 5, .ref ta, .ref tb, .ref tc, .ref td, .ref te])) te = some (.lst [.bl false, .int 0]) := (same_new hLb _ _ upd_same)
    have eLb : (upd (upd (upd (upd (upd (upd G32 ta (.tup [.bl true, .int ((2 : Int) ^ (45 : Int).toNat)])) tb (.tup [.bl true, .int ((9 : Int) * 2 ^ (28 : Int).toNat)])) tc (.tup [.int 1, .int 5])) td (.tup [.bl false, .int (-1)])) te (.lst [.bl false, .int 0])) Lb (.lst [V.non, .int 5, .ref ta, .ref tb, .ref tc, .ref td, .ref te])) Lb = some (.lst [V.non, .int 5, .ref ta, .ref tb, .ref tc, .ref td, .ref te]) := upd_same
    have s33 : Same G32 (upd (upd (upd (upd (upd (upd G32 ta (.tup [.bl true, .int ((2 : Int) ^ (45 : Int).toNat)])) tb (.tup [.bl true, .int ((9 : Int) * 2 ^ (28 : Int).toNat)])) tc (.tup [.int 1, .int 5])) td (.tup [.bl false, .int (-1)])) te (.lst [.bl false, .int 0])) Lb (.lst [V.non, .int 5, .ref ta, .ref tb, .ref tc, .ref td, .ref te])) := (sameN (sameN (sameN (sameN (sameN (same_new hta) htb) htc) htd) hte) hLb)
    generalize upd (upd (upd (upd (upd (upd G32 ta (.tup [.bl true, .int ((2 : Int) ^ (45 : Int).toNat)])) tb (.tup [.bl true, .int ((9 : Int) * 2 ^ (28 : Int).toNat)])) tc (.tup [.int 1, .int 5])) td (.tup [.bl false, .int (-1)])) te (.lst [.bl false, .int 0])) Lb (.lst [V.non, .int 5, .ref ta, .ref tb, .ref tc, .ref td, .ref te]) = G33 at eta etb etc etd ete eLb s33 ⊢
    clear hta htb htc htd hte hLb
    refine ⟨_, rfl, _, _, rfl, rfl, ⟨by decide, by decide⟩, _, _, rfl, rfl, ⟨by decide, by decide⟩, _, _, rfl, rfl, sz (by simp), fun tf htf => ⟨sz (by simp), fun Lc hLc => ?_⟩⟩
    refine ⟨_, _, _, _, rfl, rfl, same_new hLc _ _ (same_new htf _ _ eLb), upd_same, sz (by show 8 ≤ 1000; decide), fun Ld hLd => ?_⟩
    have etf : (upd (upd (upd G33 tf (.tup [.bl true, .int (Builtin.bitOr ((1 : Int) * 2 ^ (32 : Int).toNat) ((1 : Int) * 2 ^ (38 : Int).toNat))])) Lc (.lst [.ref tf])) Ld (.lst ([V.non, .int 5, .ref ta, .ref tb, .ref tc, .ref td, .ref te] ++ [.ref tf]))) tf = some (.tup [.bl true, .int (Builtin.bitOr ((1 : Int) * 2 ^ (32 : Int).toNat) ((1 : Int) * 2 ^ (38 : Int).toNat))]) := (same_new hLd _ _ (same_new hLc _ _ upd_same))
    have eLc : (upd (upd (upd G33 tf (.tup [.bl true, .int (Builtin.bitOr ((1 : Int) * 2 ^ (32 : Int).toNat) ((1 : Int) * 2 ^ (38 : Int).toNat))])) Lc (.lst [.ref tf])) Ld (.lst ([V.non, .int 5, .ref ta, .ref tb, .ref tc, .ref td, .ref te] ++ [.ref tf]))) Lc = some (.lst [.ref tf]) := (same_new hLd _ _ upd_same)
    have eLd : (upd (upd (upd G33 tf (.tup [.bl true, .int (Builtin.bitOr ((1 : Int) * 2 ^ (32 : Int).toNat) ((1 : Int) * 2 ^ (38 : Int).toNat))])) Lc (.lst [.ref tf])) Ld (.lst ([V.non, .int 5, .ref ta, .ref tb, .ref tc, .ref td, .ref te] ++ [.ref tf]))) Ld = some (.lst ([V.non, .int 5, .ref ta, .ref tb, .ref tc, .ref td, .ref te] ++ [.ref tf])) := upd_same
    have s34 : Same G33 (upd (upd (upd G33 tf (.tup [.bl true, .int (Builtin.bitOr ((1 : Int) * 2 ^ (32 : Int).toNat) ((1 : Int) * 2 ^ (38 : Int).toNat))])) Lc (.lst [.ref tf])) Ld (.lst ([V.non, .int 5, .ref ta, .ref tb, .ref tc, .ref td, .ref te] ++ [.ref tf]))) := (sameN (sameN (same_new htf) hLc) hLd)
    generalize upd (upd (upd G33 tf (.tup [.bl true, .int (Builtin.bitOr ((1 : Int) * 2 ^ (32 : Int).toNat) ((1 : Int) * 2 ^ (38 : Int).toNat))])) Lc (.lst [.ref tf])) Ld (.lst ([V.non, .int 5, .ref ta, .ref tb, .ref tc, .ref td, .ref te] ++ [.ref tf])) = G34 at etf eLc eLd s34 ⊢
    clear htf hLc hLd
    have c34 := (c32.same s33).same s34
    have t34 := (t32.trans s33).trans s34
    have bad : ∀ x ∈ ([V.non, .int 5, .ref ta, .ref tb, .ref tc, .ref td, .ref te, .ref tf] : List V), BadW G34 x := by
      have two : ∀ {p : Addr} {u v : V}, G34 p = some (.tup [u, v]) → Kd G34 u → Kd G34 v → (¬ ∃ m n, [u, v] = [V.bl m, .int n] ∧ W45 n ∧ (m = true → Law n)) → BadW G34 (.ref p) := fun e k1 k2 n => .inl ⟨_, _, rfl, e, fun x hx => by
        simp only [List.mem_cons, List.not_mem_nil, or_false] at hx
        rcases hx with rfl | rfl
        · exact k1
        · exact k2, n⟩
      intro x hx
      simp only [List.mem_cons, List.not_mem_nil, or_false] at hx
      rcases hx with rfl | rfl | rfl | rfl | rfl | rfl | rfl | rfl
      · exact .inr .non
      · exact .inr (.int _)
      · exact two (s34 _ _ eta) (.bl _) (.int _) (fun ⟨m, n, e, h, _⟩ => by
          injection e with e1 e2; injection e2 with e2 _; injection e2 with e2
          unfold W45 at h; revert h; rw [← e2]; decide)
      · exact two (s34 _ _ etb) (.bl _) (.int _) (fun ⟨m, n, e, _, h⟩ => by
          injection e with e1 e2; injection e2 with e2 _; injection e2 with e2; injection e1 with e1
          have h := (h e1.symm).1.1
          unfold fStep at h; revert h; rw [← e2]; decide)
      · exact two (s34 _ _ etc) (.int _) (.int _) (fun ⟨m, n, e, h, _⟩ => by
          injection e with e1 e2; cases e1)
      · exact two (s34 _ _ etd) (.bl _) (.int _) (fun ⟨m, n, e, h, _⟩ => by
          injection e with e1 e2; injection e2 with e2 _; injection e2 with e2
          unfold W45 at h; revert h; rw [← e2]; decide)
      · exact .inr (.lst (s34 _ _ ete))
      · exact two etf (.bl _) (.int _) (fun ⟨m, n, e, _, h⟩ => by
          injection e with e1 e2; injection e2 with e2 _; injection e2 with e2; injection e1 with e1
          have h := (h e1.symm).2
          unfold OneW at h; revert h; rw [← e2]; decide +kernel)
    clear eta etb etc etd ete etf c32 t32 s33 s34 eLc
    refine ⟨Ld, rfl, ⟨_, .of eLd⟩, for_list (K := K) (a := Ld) (xs := [V.non, .int 5, .ref ta, .ref tb, .ref tc, .ref td, .ref te, .ref tf]) (fun j σ H' => ∃ v4 v6, σ = [some (.ref c), some (.ref w), none, some (.str (d64 f).shown), v4, some (.ref Lb), v6] ∧ Same G34 H') ⟨_, _, rfl, Same.refl _⟩ (fun j σ H' _ ⟨_, _, _, sm⟩ => .of (sm _ _ eLd)) ?_ ?_⟩
    · rintro j x σ G35 hx ⟨v4, v6, rfl, s35⟩
      have ho := (bad x (List.mem_of_getElem? hx)).same s35
      have c35 := c34.same s35
      have t35 := t34.trans s35
      refine ⟨_, rfl, _, rfl, _, rfl, c, L, ws, f, 2, x, w, 1, rfl, by decide, c35, (due_wrd ho), fun p1 J1 sJ np1 fp1 => ⟨sz (by simp), fun p2 hp2 => ?_⟩⟩
      refine ⟨.list [.int 1], .list [.int 1], .lst (.inl (.of (same_new hp2 _ _ fp1))) (.cons (.int _) .nil), .lst (.inl (.of upd_same)) (.cons (.int _) .nil), ints_shaped [1], ints_shaped [1], _, rfl, ifnb (fun e => by rw [eqv1] at e; cases e) (fun _ => ?_)⟩
      have s36 : Same G35 (upd J1 p2 (.lst [.int 1])) := sJ.trans (same_new hp2)
      have c36 := c35.same s36
      have t36 := t35.trans s36
      generalize upd J1 p2 (.lst [.int 1]) = G36 at s36 c36 t36 ⊢
      clear sJ np1 fp1 hp2
      exact ⟨_, _, rfl, s35.trans s36⟩
    clear bad eLd
    rintro σ G40 ⟨v4, v6, rfl, s40⟩
    have c40 := c34.same s40
    have t40 := t34.trans s40
    clear c34 t34 s40
    
    refine ⟨_, rfl, sz (by simp), fun ta hta => ⟨sz (by simp), fun Ls hLs => ?_⟩⟩
    have eta : (upd (upd G40 ta (.tup [.int 0])) Ls (.lst [V.non, .bl true, .int (-9), .int 16, .str (Str.ofString "0"), .ref ta])) ta = some (.tup [.int 0]) := (same_new hLs _ _ upd_same)
    have eLs : (upd (upd G40 ta (.tup [.int 0])) Ls (.lst [V.non, .bl true, .int (-9), .int 16, .str (Str.ofString "0"), .ref ta])) Ls = some (.lst [V.non, .bl true, .int (-9), .int 16, .str (Str.ofString "0"), .ref ta]) := upd_same
    have s41 : Same G40 (upd (upd G40 ta (.tup [.int 0])) Ls (.lst [V.non, .bl true, .int (-9), .int 16, .str (Str.ofString "0"), .ref ta])) := (sameN (same_new hta) hLs)
    generalize upd (upd G40 ta (.tup [.int 0])) Ls (.lst [V.non, .bl true, .int (-9), .int 16, .str (Str.ofString "0"), .ref ta]) = G41 at eta eLs s41 ⊢
    clear hta hLs
    have c41 := c40.same s41
    have t41 := t40.trans s41
    have odd : ∀ x ∈ ([V.non, .bl true, .int (-9), .int 16, .str (Str.ofString "0"), .ref ta] : List V), Odd G41 (-8) 15 x := by
      intro x hx
      simp only [List.mem_cons, List.not_mem_nil, or_false] at hx
      rcases hx with rfl | rfl | rfl | rfl | rfl | rfl
      · exact ⟨.non, fun n e => by cases e⟩
      · exact ⟨.bl _, fun n e => by cases e⟩
      · exact ⟨.int _, fun n e => by cases e; decide⟩
      · exact ⟨.int _, fun n e => by cases e; decide⟩
      · exact ⟨.str _, fun n e => by cases e⟩
      · exact ⟨.tup eta, fun n e => by cases e⟩
    clear eta c40 t40 s41
    refine ⟨Ls, rfl, ⟨_, .of eLs⟩, for_list (K := K) (a := Ls) (xs := [V.non, .bl true, .int (-9), .int 16, .str (Str.ofString "0"), .ref ta]) (fun j σ H' => ∃ v4 v6, σ = [some (.ref c), some (.ref w), none, some (.str (d64 f).shown), v4, some (.ref Lb), v6] ∧ Same G41 H') ⟨_, _, rfl, Same.refl _⟩ (fun j σ H' _ ⟨_, _, _, sm⟩ => .of (sm _ _ eLs)) ?_ ?_⟩
    · rintro j x σ G42 hx ⟨v4, v6, rfl, s42⟩
      have ho := (odd x (List.mem_of_getElem? hx)).same s42
      have c42 := c41.same s42
      have t42 := t41.trans s42
      clear odd
      refine ⟨sz (by simp), fun td htd => ?_⟩
      have etd : (upd G42 td (.tup [.int 3, .int 4, .int 5])) td = some (.tup [.int 3, .int 4, .int 5]) := upd_same
      have s43 : Same G42 (upd G42 td (.tup [.int 3, .int 4, .int 5])) := (same_new htd)
      generalize upd G42 td (.tup [.int 3, .int 4, .int 5]) = G43 at etd s43 ⊢
      clear htd
      have c43 := c42.same s43
      have ho := ho.same s43
      refine ⟨td, rfl, ⟨_, .of etd⟩, fun D2 hD2 => lc_data K (walk_tup (K := K) (a := td) (xs := [.int 3, .int 4, .int 5])) (fun _ : Nat => PyData.list [.int 2]) hD2 (szn (by decide)) (fun G s => .of (s _ _ etd)) ?_ ?_⟩
      · rintro i x' G G' hi sG fr ⟨rfl, hx'⟩ k' m' hk
        have cG := c43.same sG
        obtain ⟨dd, rfl, hdd⟩ : ∃ dd : Int, x' = .int dd ∧ (dd = 3 ∨ dd = 4 ∨ dd = 5) := by
          have hi : i < 3 := hi
          have hi : i = 0 ∨ i = 1 ∨ i = 2 := by omega
          rcases hi with rfl | rfl | rfl <;> cases hx' <;> exact ⟨_, rfl, by decide⟩
        refine ⟨rfl, ?_⟩
        refine ⟨_, rfl, _, rfl, _, rfl, _, rfl, c, L, ws, f, dd, x, w, 2, rfl, by omega, cG, due_off (ho.same sG) hdd, fun p1 J1 sJ np1 fp1 => ?_⟩
        refine hk _ _ sJ ?_
        exact .lst (.inl (.of (hid_at (fr _ np1) fp1))) (.cons (.int _) .nil)
      intro G acc sG hG dG
      clear hD2
      refine ⟨sz (by simp), fun ra hra => ⟨sz (by simp), fun rb hrb => ?_⟩⟩
      refine ⟨rb, 3, _, rfl, rfl, upd_same, by decide, by decide, by rw [sizeLine_eq]; show 1 * 3 ≤ 16777216; decide, fun rl hrl => ?_⟩
      have hG2 : (upd (upd (upd G ra (.lst [.int 2])) rb (.lst [.ref ra])) rl (.lst (List.replicate (Int.toNat 3) [V.ref ra]).flatten)) D2 = some (.lst acc) := same_new hrl _ _ (same_new hrb _ _ (same_new hra _ _ hG))
      have dG2 : DpAll K (upd (upd (upd G ra (.lst [.int 2])) rb (.lst [.ref ra])) rl (.lst (List.replicate (Int.toNat 3) [V.ref ra]).flatten)) acc _ := DpAll.sm (sameN (sameN (same_new (H := G) (o := .lst [.int 2]) hra) hrb) hrl) dG
      have era : (upd (upd (upd G ra (.lst [.int 2])) rb (.lst [.ref ra])) rl (.lst (List.replicate (Int.toNat 3) [V.ref ra]).flatten)) ra = some (.lst [.int 2]) := (same_new hrl _ _ (same_new hrb _ _ upd_same))
      have erb : (upd (upd (upd G ra (.lst [.int 2])) rb (.lst [.ref ra])) rl (.lst (List.replicate (Int.toNat 3) [V.ref ra]).flatten)) rb = some (.lst [.ref ra]) := (same_new hrl _ _ upd_same)
      have erl : (upd (upd (upd G ra (.lst [.int 2])) rb (.lst [.ref ra])) rl (.lst (List.replicate (Int.toNat 3) [V.ref ra]).flatten)) rl = some (.lst (List.replicate (Int.toNat 3) [V.ref ra]).flatten) := upd_same
      have s44 : Same G (upd (upd (upd G ra (.lst [.int 2])) rb (.lst [.ref ra])) rl (.lst (List.replicate (Int.toNat 3) [V.ref ra]).flatten)) := (sameN (sameN (same_new hra) hrb) hrl)
      generalize upd (upd (upd G ra (.lst [.int 2])) rb (.lst [.ref ra])) rl (.lst (List.replicate (Int.toNat 3) [V.ref ra]).flatten) = G44 at hG2 dG2 era erb erl s44 ⊢
      clear hra hrb hrl
      have c44 := (c43.same sG).same s44
      refine ⟨.list ((List.range 3).map (fun _ : Nat => PyData.list [.int 2])), .list [.list [.int 2], .list [.int 2], .list [.int 2]], .lst (.inl (.of hG2)) dG2, .lst (.inl (.of erl)) (.cons (.lst (.inl (.of era)) (.cons (.int _) .nil)) (.cons (.lst (.inl (.of era)) (.cons (.int _) .nil)) (.cons (.lst (.inl (.of era)) (.cons (.int _) .nil)) .nil))), sh32, sh32, _, rfl, ifnb (fun e => by rw [show PyData.eqv (.list ((List.range 3).map (fun _ : Nat => PyData.list [.int 2]))) (.list [.list [.int 2], .list [.int 2], .list [.int 2]]) = true from PySem.SeqAt.eqv_refl _ (PySem.SeqAt.canLay_of_shaped sh32)] at e; cases e) (fun _ => ?_)⟩
      exact ⟨_, _, rfl, s42.trans (s43.trans (sG.trans s44))⟩
    clear odd eLs
    rintro σ G50 ⟨v4, v6, rfl, s50⟩
    have c50 := c41.same s50
    have t50 := t41.trans s50
    clear c41 t41 s50
    
    refine ⟨64, rfl, by decide, by decide, fun D2 hD2 => lc_gen (walk_range (lo := 0) (n := 64)) (fun _ => true) (fun i => ws.getD i .non) hD2 (szn (by decide)) (fun _ _ => trivial) ?_ ?_⟩
    · rintro i x G G' hi6 sG ⟨rfl, rfl⟩ k' m' hk hm
      have hi6 : i < 64 := hi6
      have cG := c50.same sG
      refine ⟨rfl, ?_⟩
      refine ⟨_, rfl, c, _, rfl, cG.ins, rfl, _, rfl, c, L, ws, f, _, rfl, cG, by omega, by omega, fun q5 e5 _ => ?_⟩
      have e : ws.getD i .non = .ref q5 := by
        rw [List.getD_eq_getElem?_getD, show ws[i]? = some (.ref q5) from by rw [← e5]; congr 1; omega]; rfl
      rw [← e]
      exact hk rfl _ (Same.refl _)
    intro G51 s51 hG51
    rw [filt_true] at hG51
    refine ⟨.ref D2, d64 f, rfl, .lst (.inl (.of hG51)) (dp_64 (c50.same s51)), a1, a2, a3, a4, ?_⟩
    exact ⟨_, rfl, shown_eq (q _ (t50.trans s51))⟩

theorem ok_law {f : Addr} {oc kV dc pm cdv ct : Value} {od an : Option Addr} {osl : Array (Option Value)} (lk : K.lookup f = some ⟨oc, od, .func (PySem.W.fnOf "law" "law" (defArgs s_law) (defBody s_law) (defScope s_law) .none kV dc pm an cdv ct), osl⟩) (hcd : PySem.W.codeIn K cdv "law" = true) (T : Txt K w mg) (C_Cells___init__ : MkN P w K mg base "Cells" 1 (sp_Cells___init__ K)) (C_Cells_store : MthN (L2.CX P w) P w K mg base "Cells" "store" 5 ["self", "word", "offset", "what"] [] (sp_Cells_store K)) (C_Cells_poke : MthN (L2.CX P w) P w K mg base "Cells" "poke" 5 ["self", "word", "offset", "number"] [] (sp_Cells_poke K)) (C_Cells_lay : MthN CX0 P w K mg base "Cells" "lay" 5 ["self", "address", "word"] [] (sp_Cells_lay K)) (C_Cells_cell : MthN CX0 P w K mg base "Cells" "cell" 3 ["self", "address"] [] (sp_Cells_cell K)) (C_Cells_marked : MthN CX0 P w K mg base "Cells" "marked" 4 ["self", "low", "high"] [.int 0, .int 4096] (sp_Cells_marked K)) (C__law_take : Cal P w K mg base "_law_take" 1 ["_law_pool_here", "_law_many"] (sp__law_take K)) (C__law_pool : Cal P w K mg base "_law_pool" 1 ["_law_script", "_law_k"] (sp__law_pool K)) (C__law_made : Cal P w K mg base "_law_made" 2 ["_law_low", "_law_high", "_law_at", "_law_rights_here", "_law_kind"] (sp__law_made K)) (C__law_word : Cal P w K mg base "_law_word" 3 ["_law_pool_here"] (sp__law_word K)) (C_Cells_clear : MthN CX0 P w K mg base "Cells" "clear" 4 ["self", "low", "high"] [] (sp_Cells_clear K)) (C_Cells_twin : MthN CX0 P w K mg base "Cells" "twin" 3 ["self"] [] (sp_Cells_twin K)) (C_Cells___eq__ : EqN P w K mg base "Cells" 1 (sp_Cells___eq__ K)) (C_Cells_marked__v2 : MthN CX0 P w K mg base "Cells" "marked" 4 ["self", "low", "high"] [] (sp_Cells_marked__v2 K)) (C__law_laid : Cal P w K mg base "_law_laid" 6 ["_law_pool_here", "_law_cells", "_law_book"] (sp__law_laid K)) (C__law_same : CalG P w K mg base "_law_same" 5 ["_law_cells", "_law_book"] (sp__law_same K)) (C__law_emptied_so : Cal P w K mg base "_law_emptied_so" 6 ["_law_word_here"] (sp__law_emptied_so K)) (C__law_odd_so : CalG P w K mg base "_law_odd_so" 7 ["_law_cells", "_law_word_here"] (sp__law_odd_so K)) {s : Shared} {H : Hp} {a : Addr} {ns : List Int} (e0 : Env0 P w K mg base callerA [] s H) (hS : SqL K H a (ns.map V.int)) (hlen : ns.length ≤ 63) :
    codeAny (model P w) callerA (.call (.ref f) ⟨[.ref a], []⟩) (CR CX0 [] P w H s (fun v _ => v = .bl true) fun _ _ _ => False) s := by
  have hr : Room 7 (callerA.deeper (envOfC "law" (defScope s_law) s.heap.objs.size f cdv)) := Room.deeper (k := 7) ⟨rfl, by decide, by decide⟩ _
  have gd : (callerA.deeper (envOfC "law" (defScope s_law) s.heap.objs.size f cdv)).guards = some [] := caller_guards
  generalize hQ : (fun (v : V) (_ : Hp) => v = V.bl true) = Q
  have q : ∀ H', Q (.bl true) H' := fun _ => by rw [← hQ]
  refine body_at (N := ["_law_script", "_law_k", "_law_pool_here", "_law_cells", "_law_book", "_law_other", "_law_low", "_law_high", "_law_kept", "_law_address", "_law_due", "_law_held", "_law_gone"]) (ps := ["_law_script"]) (vs := [.ref a]) (us := [.ref a]) lk hcd sc_law rfl (k := 7) ⟨rfl, by decide, by decide⟩ e0 (.of_eq rfl) (.cons rfl .nil) ?_
  refine ⟨_, PSs.nox (pss_cons (ps_for PassesOwn.never rfl (pi_range1 (by rfl) T.z_range (pa_cons (pe_callB (call_max2 rfl) (by rfl) T.z_max (by decide +kernel) (pa_cons pe_int (pa_cons (pe_callB (call_min2 rfl) (by rfl) T.z_min (by decide +kernel) (pa_cons (pe_callB (r := rLenSq K) call_lenSq (by rfl) T.z_len (by decide +kernel) (pa_cons (pv 0) pa_nil)) (pa_cons pe_int pa_nil))) pa_nil))) pa_nil)) (pg_name (i := 1) sc_law.nd rfl (.inl rfl)) (pss_cons (ps_set (i := 2) sc_law.nd rfl (.inl rfl) (pe_cal C__law_pool (hr.mono (by decide)) (pa_cons (pv 0) (pa_cons (pv 1) pa_nil))))
      (pss_cons (ps_asg (pe_tup (pa_cons (pe_mkN C_Cells___init__ (hr.mono (by decide))) (pa_cons pe_dnewK pa_nil))) (pg_tup rfl (pgs_cons (pg_name (i := 3) sc_law.nd rfl (.inr rfl)) (pgs_cons (pg_name (i := 4) sc_law.nd rfl (.inr rfl)) pgs_nil))))
      (pss_cons (ps_if (PW.pt (pw_or (pt_cmpR (r := rNeO K "Cells" (sp_Cells___eq__ K)) (op_neO C_Cells___eq__ (hr.mono (by decide))) (pv 3) (pe_mkN C_Cells___init__ (hr.mono (by decide))) (nomark _)) (pw_or (pt_cmpR (r := rEqO K "Cells" (sp_Cells___eq__ K)) (op_eqO C_Cells___eq__ (hr.mono (by decide))) (pv 3) pe_str (nomark _)) (pw_or (pt_not (pt_val (pe_cal C__law_laid (hr.mono (by decide)) (pa_cons (pv 2) (pa_cons (pv 3) (pa_cons (pv 4) pa_nil)))))) (pw_or1 (pt_not (pt_val (pe_calG C__law_same (hr.mono (by decide)) gd (pa_cons (pv 3) (pa_cons (pv 4) pa_nil)))))))))) (pss_one (ps_ret pe_bl)) pss_nil)
      (pss_cons (ps_set (i := 5) sc_law.nd rfl (.inl rfl) (pe_mthN0c C_Cells_twin (E := fun _ => E0) (hr.mono (by decide)) (fun σ pins H s e s' I c => pass0 pins σ H s e s' I c) (pv 3)))
      (pss_cons (ps_if (PW.pt (pw_or (pt_cmpR (r := rNeO K "Cells" (sp_Cells___eq__ K)) (op_neO C_Cells___eq__ (hr.mono (by decide))) (pv 5) (pv 3) (nomark _)) (pw_or (pt_not (pt_val (pe_calG C__law_odd_so (hr.mono (by decide)) gd (pa_cons (pv 3) (pa_cons (pe_cal C__law_word (hr.mono (by decide)) (pa_cons (pv 2) pa_nil)) pa_nil))))) (pw_or1 (pt_cmpR (r := rNeO K "Cells" (sp_Cells___eq__ K)) (op_neO C_Cells___eq__ (hr.mono (by decide))) (pv 5) (pv 3) (nomark _)))))) (pss_one (ps_ret pe_bl)) pss_nil)
      (pss_cons (ps_set (i := 6) sc_law.nd rfl (.inr rfl) (pe_cal C__law_take (hr.mono (by decide)) (pa_cons (pv 2) (pa_cons pe_int pa_nil))))
      (pss_cons (ps_set (i := 7) sc_law.nd rfl (.inr rfl) (pe_op op_add (pe_op op_add (pv 6) pe_int) (pe_cal C__law_take (hr.mono (by decide)) (pa_cons (pv 2) (pa_cons (pe_ix (r := rIxL K) ix_list (pe_lst (pa_cons pe_int (pa_cons (pe_op op_sub pe_int (pv 6)) pa_nil))) (pe_cal C__law_take (hr.mono (by decide)) (pa_cons (pv 2) (pa_cons pe_int pa_nil))) (fun _ _ => rfl)) pa_nil)))))
      (pss_cons (ps_set (i := 8) sc_law.nd rfl (.inr rfl) (pe_callTy call_dictD (by rfl) T.z_dict (by decide +kernel) (pa_cons (pv 4) pa_nil)))
      (pss_cons (ps_setLc (i := 10) (own := [("_law_address", 9)]) rfl sc_law.nd rfl rfl (sw_true rfl rfl rfl (by decide +kernel)) (pi_list (pe_callB (call_sortedDI rfl) (by rfl) T.z_sorted (by decide +kernel) (pa_cons (pv 4) pa_nil))) (blkOk_by (own := [("_law_address", 9)]) (N := ["_law_script", "_law_k", "_law_pool_here", "_law_cells", "_law_book", "_law_other", "_law_low", "_law_high", "_law_kept", "_law_address", "_law_due", "_law_held", "_law_gone"]) (sc := defScope s_law) (by decide +kernel)) (fun _ _ _ _ _ => (pg_name (i := 9) sc_law.nd rfl (.inl rfl))) (fun _ _ _ _ _ => (pts_one (PW.pt (pw_and (pt_chain op_le op_lt (pv 6) (pv 9) (pv 7)) (pw_and1 (pt_val (pe_ix (r := rIxT K) ix_tup (pe_dget (hu_of hr) (pv 4) (pv 9) (fun _ _ => rfl)) pe_int (fun _ _ => rfl)))))))) (fun _ _ _ _ _ => (pv 9)))
      (pss_cons (ps_set (i := 11) sc_law.nd rfl (.inl rfl) (pe_mthN0c C_Cells_marked (E := fun _ => E0) (hr.mono (by decide)) (fun σ pins H s e s' I c => pass0 pins σ H s e s' I c) (pv 3)))
      (pss_cons (ps_if (PW.pt (pw_or (pt_cmpR (r := rNeD K) (op_neD hr.units) (pe_mthN C_Cells_marked__v2 (hr.mono (by decide)) (pv 3) (pa_cons (pv 6) (pa_cons (pv 7) pa_nil))) (pv 10) (nomark _)) (pw_or1 (pt_cmpR op_notN (pe_mthN C_Cells_clear (hr.mono (by decide)) (pv 3) (pa_cons (pv 6) (pa_cons (pv 7) pa_nil))) pe_non (nomark _))))) (pss_one (ps_ret pe_bl)) pss_nil)
      (pss_cons (ps_expr (pe_bm PySem.F.plainAttrs_list PySem.F.slot_list_append PySem.F.type_list_append mt_append (pe_mthN0c C_Cells_marked (E := fun _ => E0) (hr.mono (by decide)) (fun σ pins H s e s' I c => pass0 pins σ H s e s' I c) (pv 3)) (pa_cons pe_non pa_nil)))
      (pss_cons (ps_if (pt_cmpR (r := rNeD K) (op_neD hr.units) (pv 11) (pe_lc (own := [("_law_address", 9)]) rfl sc_law.nd (pi_list (pe_callB (call_sortedDI rfl) (by rfl) T.z_sorted (by decide +kernel) (pa_cons (pv 8) pa_nil))) (blkOk_by (own := [("_law_address", 9)]) (N := ["_law_script", "_law_k", "_law_pool_here", "_law_cells", "_law_book", "_law_other", "_law_low", "_law_high", "_law_kept", "_law_address", "_law_due", "_law_held", "_law_gone"]) (sc := defScope s_law) (by decide +kernel)) (fun _ _ _ _ _ => (pg_name (i := 9) sc_law.nd rfl (.inl rfl))) (fun _ _ _ _ _ => (pts_one (pt_val (pe_ix (r := rIxT K) ix_tup (pe_dget (hu_of hr) (pv 8) (pv 9) (fun _ _ => rfl)) pe_int (fun _ _ => rfl))))) (fun _ _ _ _ _ => (pv 9))) (nomark _)) (pss_one (ps_ret pe_bl)) pss_nil)
      (pss_cons (ps_set (i := 4) sc_law.nd rfl (.inr rfl) (pe_callTy (call_dictP rfl) (by rfl) T.z_dict (by decide +kernel) (pa_cons (pe_lock (pe_lc (own := [("_law_address", 9)]) rfl sc_law.nd (pi_keys (pv 4)) (blkOk_by (own := [("_law_address", 9)]) (N := ["_law_script", "_law_k", "_law_pool_here", "_law_cells", "_law_book", "_law_other", "_law_low", "_law_high", "_law_kept", "_law_address", "_law_due", "_law_held", "_law_gone"]) (sc := defScope s_law) (by decide +kernel)) (fun _ _ _ _ _ => (pg_name (i := 9) sc_law.nd rfl (.inl rfl))) (fun _ _ _ _ _ => (pts_one (pt_not (pt_chain op_le op_lt (pv 6) (pv 9) (pv 7))))) (fun _ _ _ _ _ => (pe_tup (pa_cons (pv 9) (pa_cons (pe_dget (hu_of hr) (pv 4) (pv 9) (fun _ _ => rfl)) pa_nil)))))) pa_nil)))
      (pss_cons (ps_if (PW.pt (pw_or (pt_not (pt_val (pe_calG C__law_same (hr.mono (by decide)) gd (pa_cons (pv 3) (pa_cons (pv 4) pa_nil))))) (pw_or1 (pt_not (pt_val (pe_calG C__law_same (hr.mono (by decide)) gd (pa_cons (pv 5) (pa_cons (pv 8) pa_nil)))))))) (pss_one (ps_ret pe_bl)) pss_nil)
      (pss_cons (ps_if (pt_cmpR (r := rNeE K) (op_neE hr.units) (pe_lock (pe_lc (own := [("_law_address", 9)]) rfl sc_law.nd (pi_keys (pv 8)) (blkOk_by (own := [("_law_address", 9)]) (N := ["_law_script", "_law_k", "_law_pool_here", "_law_cells", "_law_book", "_law_other", "_law_low", "_law_high", "_law_kept", "_law_address", "_law_due", "_law_held", "_law_gone"]) (sc := defScope s_law) (by decide +kernel)) (fun _ _ _ _ _ => (pg_name (i := 9) sc_law.nd rfl (.inl rfl))) (fun _ _ _ _ _ => by exact (pts_one (pt_cmpR (r := rNeD K) (op_neD hr.units) (pe_mthNK (K := K) C_Cells_cell (hr.mono (by decide)) (by exact (pv 3)) (by exact (pa_cons (pv 9) pa_nil))) (pe_dget2 (hu_of hr) (pv 4) (pv 9) (pe_tup (pa_cons pe_bl (pa_cons pe_int pa_nil))) ⟨by rfl, by rfl, by rfl, by rfl⟩) (nomark _)))) (fun _ _ _ _ _ => (pv 9)))) (pe_lst pa_nil) (nomark _)) (pss_one (ps_ret pe_bl)) pss_nil)
      (pss_cons (ps_lock (ps_setLc (i := 12) (own := [("_law_address", 9)]) rfl sc_law.nd rfl rfl (sw_true rfl rfl rfl (by decide +kernel)) (pi_keys (pv 8)) (blkOk_by (own := [("_law_address", 9)]) (N := ["_law_script", "_law_k", "_law_pool_here", "_law_cells", "_law_book", "_law_other", "_law_low", "_law_high", "_law_kept", "_law_address", "_law_due", "_law_held", "_law_gone"]) (sc := defScope s_law) (by decide +kernel)) (fun _ _ _ _ _ => (pg_name (i := 9) sc_law.nd rfl (.inl rfl))) (fun _ _ _ _ _ => (pts_one (PW.pt (pw_and (pt_cmp (pc_dnotin (hu_of hr) (pv 9) (pv 4)) (by rfl)) (pw_and1 (pt_cmpR (r := rNeD K) (op_neD hr.units) (pe_dget (hu_of hr) (pv 8) (pv 9) (fun _ _ => rfl)) (pe_tup (pa_cons pe_bl (pa_cons pe_int pa_nil))) (nomark _))))))) (fun _ _ _ _ _ => (pv 9))))
      (pss_cons (ps_if (pt_cmpR op_ne (pe_cmpR (r := rEqO K "Cells" (sp_Cells___eq__ K)) (op_eqO C_Cells___eq__ (hr.mono (by decide))) (pv 3) (pv 5) (nomark _)) (pe_cmpR (r := rEqE K) (op_eqE hr.units) (pv 12) (pe_lst pa_nil) (nomark _)) (nomark _)) (pss_one (ps_ret pe_bl)) pss_nil)
      (pss_cons (ps_expr (pe_mthN C_Cells_lay (hr.mono (by decide)) (pv 5) (pa_cons pe_int (pa_cons (pe_tup (pa_cons pe_bl (pa_cons pe_int pa_nil))) pa_nil))))
      (pss_cons (ps_expr (pe_mthX0 C_Cells_poke (hr.mono (by decide)) (pv 5) (pa_cons (pe_cal C__law_made (hr.mono (by decide)) (pa_cons pe_int (pa_cons pe_int (pa_cons pe_int (pa_cons pe_str (pa_cons pe_int pa_nil)))))) (pa_cons pe_int (pa_cons pe_int pa_nil)))))
      (pss_cons (ps_expr (pe_mthX0 C_Cells_store (hr.mono (by decide)) (pv 5) (pa_cons (pe_cal C__law_made (hr.mono (by decide)) (pa_cons pe_int (pa_cons pe_int (pa_cons pe_int (pa_cons pe_str (pa_cons pe_int pa_nil)))))) (pa_cons pe_int (pa_cons (pe_tup (pa_cons pe_bl (pa_cons pe_int pa_nil))) pa_nil)))))
      (pss_cons (ps_expr (pe_mthN C_Cells_clear (hr.mono (by decide)) (pv 5) (pa_cons pe_int (pa_cons pe_int pa_nil))))
      (pss_one (ps_if (PW.pt (pw_or (pt_not (pt_val (pe_calG C__law_same (hr.mono (by decide)) gd (pa_cons (pv 3) (pa_cons (pv 4) pa_nil))))) (pw_or1 (pt_not (pt_val (pe_cal C__law_emptied_so (hr.mono (by decide)) (pa_cons (pe_cal C__law_word (hr.mono (by decide)) (pa_cons (pv 2) pa_nil)) pa_nil))))))) (pss_one (ps_ret pe_bl)) pss_nil)))))))))))))))))))))))))
      (pss_one (ps_ret pe_bl))), ?_⟩
  refine ⟨_, rfl, a, _, rfl, .inl hS, _, _, rfl, _, _, rfl, _, rfl, rep_lo (c := 8) (by decide) (by decide), rep_hi (c := 8) (by decide) (by decide), for_range (fun i σ H' => ∃ v1 v2 v3 v4 v5 v6 v7 v8 v9 v10 v11 v12, σ = [some (.ref a), v1, v2, v3, v4, v5, v6, v7, v8, v9, v10, v11, v12] ∧ Same H H') ⟨_, _, _, _, _, _, _, _, _, _, _, _, rfl, Same.refl _⟩ ?_ ?_⟩
  · rintro i σ H3 hi ⟨v1, v2, v3, v4, v5, v6, v7, v8, v9, v10, v11, v12, rfl, s3⟩
    have hi63 := rep_i (c := 8) (by decide) (by decide) hi
    rw [i0]
    refine ⟨_, rfl, _, rfl, a, ns, i, rfl, s3.seq hS, hlen, hi63, fun x y p H4 sm4 hp0 P4 => ?_⟩
    refine fun C hC c dx hc hdx ndx => ⟨c, C, dx, rfl, hC, upd_same, fun L ws H5 sH5 hL5 cel => ⟨rfl, ?_⟩⟩
    have s45 : Same H4 (upd H5 c (.ins C dx [(Str.ofString "_words", .ref L)])) := fun b o e => by
      rw [upd_ne (ne_of_none e hc)]
      exact sH5 b o (by rw [upd_ne (ne_of_none e hc), upd_ne (ne_of_none e hdx)]; exact e)
    have hL4 : H4 L = none := by
      cases e : H4 L with
      | none => rfl
      | some o =>
        rw [upd_ne (ne_of_none e hc), upd_ne (ne_of_none e hdx), e] at hL5; cases hL5
    generalize upd H5 c (.ins C dx [(Str.ofString "_words", .ref L)]) = H6 at cel s45 ⊢
    clear sH5 hL5 hc hdx ndx
    have nL3 : H3 L = none := none_of sm4 hL4
    refine fun D hD => ⟨sz (by simp), fun tq htq => ?_⟩
    have nD3 : H3 D = none := none_of (sm4.trans s45) hD
    have k7 : Bk K (upd (upd H6 D (.dK [])) tq (.tup [.ref c, .ref D])) D [] (fun _ => (false, 0)) := ⟨same_new htq _ _ upd_same, by simp, by simp, fun i _ => .inl ⟨rfl, rfl⟩⟩
    have s67 : Same H6 (upd (upd H6 D (.dK [])) tq (.tup [.ref c, .ref D])) := sameN (same_new hD) htq
    have f7 : (upd (upd H6 D (.dK [])) tq (.tup [.ref c, .ref D])) tq = some (.tup [.ref c, .ref D]) := upd_same
    have c7 := cel.same s67
    have P7 := (P4.same s45).same s67
    have S7 := (sm4.trans s45).trans s67
    generalize upd (upd H6 D (.dK [])) tq (.tup [.ref c, .ref D]) = H7 at k7 f7 c7 P7 S7 ⊢
    clear cel s67 s45 hD hL4 sm4 P4 htq
    refine ⟨tq, _, rfl, .of f7, rfl, _, _, rfl, _, _, rfl, rfl, ?_⟩
    clear f7
    -- alike when new
    refine ⟨_, rfl, fun C2 hC2 c2 dx2 h1 h2 n12 => ⟨c2, C2, dx2, rfl, hC2, upd_same, fun L2' ws5 G5 sG5 hL25 cel2 => ⟨rfl, ?_⟩⟩⟩
    have S20 : Same H7 (upd G5 c2 (.ins C2 dx2 [(Str.ofString "_words", .ref L2')])) := fun b o e => by
      rw [upd_ne (ne_of_none e h1)]
      exact sG5 b o (by rw [upd_ne (ne_of_none e h1), upd_ne (ne_of_none e h2)]; exact e)
    generalize upd G5 c2 (.ins C2 dx2 [(Str.ofString "_words", .ref L2')]) = H8 at cel2 S20 ⊢
    have c8 := c7.same S20
    have k8 := k7.same S20
    have P8 := P7.same S20
    have S8 := S7.trans S20
    refine ⟨c, _, rfl, c8.ins, .inl ⟨c2, _, rfl, cel2.ins⟩, c, L, _, _, _, rfl, c8, .inl ⟨c2, _, _, _, rfl, cel2, fun b hb => ⟨b, rfl, ?_⟩⟩⟩
    have eb : b = true := hb.mpr fun i hi => rfl
    subst eb
    refine ⟨_, rfl, ifnb (fun e => by cases e) (fun _ => ?_)⟩
    clear sG5 hL25 h1 h2 n12 c7 S7 S20 k7 P7 cel2 hb
    refine ⟨_, rfl, c, _, rfl, c8.ins, .inr ⟨_, rfl⟩, c, L, _, _, _, rfl, c8, .inr ⟨_, rfl, false, rfl, ?_⟩⟩
    refine ⟨_, rfl, ?_⟩
    refine ⟨_, rfl, _, rfl, _, rfl, p, D, c, L, x, y, _, _, [], rfl, P8, c8, k8, by decide, fun x1 y1 ws1 f1 kvs1 H9 B9 P9 c9 k9 l9 => ⟨_, rfl, ?_⟩⟩
    have S9 := same_butP hp0 nL3 nD3 S8 B9
    have l9 : kvs1.length ≤ 8 := by simpa using l9
    refine ⟨_, rfl, _, rfl, D, c, L, ws1, f1, kvs1, rfl, c9, k9, by omega, fun H10 s10 => ⟨_, rfl, ?_⟩⟩
    have c10 := c9.same s10
    have k10 := k9.same s10
    have P10 := P9.same s10
    have S10 := S9.trans s10
    clear S8 P8 c8 k8 B9 S9 P9 c9 k9 s10
    -- a twin
    refine ⟨_, rfl, c, _, rfl, c10.ins, rfl, c, L, _, _, rfl, c10, fun o Lo H11 s11 no nLo co => ?_⟩
    have nLo3 : H3 Lo = none := none_of S10 nLo
    have nDo : D ≠ Lo := fun z => by subst z; rw [k10.at'] at nLo; cases nLo
    have nLL : L ≠ Lo := fun z => by subst z; rw [c10.lst] at nLo; cases nLo
    have npLo : p ≠ Lo := fun z => by subst z; rw [P10.1] at nLo; cases nLo
    have c11 := c10.same s11
    have k11 := k10.same s11
    have P11 := P10.same s11
    have S11 := S10.trans s11
    clear c10 k10 P10 S10 s11 no nLo
    refine ⟨_, rfl, _, rfl, o, _, rfl, co.ins, .inl ⟨c, _, rfl, c11.ins⟩, o, Lo, _, _, _, rfl, co, .inl ⟨c, _, _, _, rfl, c11, fun b hb => ⟨b, rfl, ?_⟩⟩⟩
    have eb : b = true := hb.mpr fun i hi => rfl
    subst eb
    refine ⟨_, rfl, ifnb (fun e => by cases e) (fun _ => ?_)⟩
    refine ⟨_, rfl, _, rfl, p, x1, y1, rfl, P11, fun qw m b x2 y2 H12 B12 P12 hq w12 => ?_⟩
    have c12 := c11.butP P11 B12
    have k12 := k11.butP P11 B12
    have co12 := co.butP P11 B12
    have S12 := same_but hp0 S11 B12
    refine ⟨c, L, qw, ws1, f1, rfl, c12, fun H13 s13 => ⟨_, rfl, ?_⟩⟩
    have c13 := c12.same s13
    have k13 := k12.same s13
    have co13 := co12.same s13
    have P13 := P12.same s13
    have S13 := S12.trans s13
    clear c11 k11 co P11 S11 c12 k12 co12 P12 S12 B12 w12 hq s13
    refine ⟨_, rfl, _, rfl, o, _, rfl, co13.ins, .inl ⟨c, _, rfl, c13.ins⟩, o, Lo, _, _, _, rfl, co13, .inl ⟨c, _, _, _, rfl, c13, fun b hb => ⟨b, rfl, ?_⟩⟩⟩
    have eb : b = true := hb.mpr fun i hi => rfl
    subst eb
    refine ⟨_, rfl, ifnb (fun e => by cases e) (fun _ => ?_)⟩
    -- bounds
    refine ⟨_, rfl, p, x2, y2, _, rfl, P13, by decide, by decide, fun low x3 y3 H14 l0 l1 B14 P14 => ?_⟩
    have c14 := c13.butP P13 B14
    have k14 := k13.butP P13 B14
    have co14 := co13.butP P13 B14
    have S14 := same_but hp0 S13 B14
    clear c13 k13 co13 P13 S13 B14 hb
    refine ⟨_, rfl, _, _, rfl, rfl, _, rfl, _, rfl, _, _, rfl, rfl, sz (by simp), fun Lx hLx => ?_⟩
    refine ⟨_, rfl, p, x3, y3, _, rfl, P14.new hLx, by decide, by decide, fun r1 x4 y4 H15 r10 r11 B15 P15 => ?_⟩
    have f15 := kept_list P14 hLx B15 (P14.new hLx)
    obtain ⟨lv, hv, mm, rfl, m0, m1⟩ := pick (xs := [.int 64, .int (4096 - low)]) (fun v => ∃ z, v = .int z ∧ 0 < z ∧ z + low ≤ 4096) r10 r11 (by
      intro v hv
      simp only [List.mem_cons, List.not_mem_nil, or_false] at hv
      rcases hv with h | h <;> exact ⟨_, h, by omega, by omega⟩)
    refine ⟨Lx, _, _, _, rfl, rfl, .of f15, hv, ?_⟩
    refine ⟨p, x4, y4, mm, rfl, P15, m0, by omega, fun r2 x5 y5 H16 r20 r21 B16 P16 => ?_⟩
    have Q16 : But p H14 H16 := (But.trans (But.new (But.refl _ _) hLx) B15).trans B16
    have c16 := c14.butP P14 Q16
    have k16 := k14.butP P14 Q16
    have co16 := co14.butP P14 Q16
    have S16 := same_but hp0 S14 Q16
    clear c14 k14 co14 P14 S14 B15 B16 P15 Q16 f15 hv hLx
    refine ⟨_, _, rfl, rfl, ?_⟩
    have bd : Bd low (low + 1 + r2) := ⟨l0, by omega, by omega⟩
    dsimp only
    generalize low + 1 + r2 = high at bd ⊢
    clear r20 r21 r10 r11 m0 m1
    -- the book kept
    refine ⟨_, rfl, D, kvs1, rfl, .of k16.at', fun Dk hDk => ?_⟩
    have nDk3 := none_of S16 hDk
    have kk17 : Bk K (upd H16 Dk (.dK kvs1)) Dk kvs1 f1 := by
      have z := k16.same (same_new (o := .dK kvs1) hDk)
      exact ⟨upd_same, z.keys, z.nd, z.val⟩
    have s17 := same_new (o := HO.dK kvs1) hDk
    generalize upd H16 Dk (.dK kvs1) = H17 at kk17 s17 ⊢
    have c17 := c16.same s17
    have k17 := k16.same s17
    have co17 := co16.same s17
    have P17 := P16.same s17
    have S17 := S16.trans s17
    clear c16 k16 co16 P16 S16 s17
    obtain ⟨ks, ek⟩ := book_keys k17
    have lk := keys_len ek
    -- the marked ones of bounds
    refine ⟨_, rfl, D, kvs1, ks, rfl, .of k17.at', ek, by omega, fun ys q1 hp hs hq1 => ?_⟩
    have ly := hp.length_eq
    have fy : (upd H17 q1 (.lst (ys.map V.int))) q1 = some (.lst (ys.map V.int)) := upd_same
    have s18 := same_new (o := HO.lst (ys.map V.int)) hq1
    generalize upd H17 q1 (.lst (ys.map V.int)) = H18 at fy s18 ⊢
    have k18 := k17.same s18
    refine ⟨q1, rfl, ⟨_, .of fy⟩, fun D2 hD2 => lc_sel (walk_list (K := K) (a := q1) (xs := ys.map V.int)) ys (fun y => decide (low ≤ y) && decide (y < high) && (f1 y.toNat).1) (List.length_map ..) (by omega) yat_ints hD2 (fun H' s => .of (s _ _ fy)) ?_ ?_⟩
    · intro y G hy sG kk mm' hkeep hdrop
      obtain ⟨n, qy, hn, rfl, ev, wy⟩ := key_val k18 ek (hp.mem_iff.mp hy)
      have get : DGet G D (.int (n : Int)) (some (.ref qy)) := by rw [← ev]; exact DGet.k (k := .inl (n : Int)) (sG _ _ k18.at')
      refine ⟨rfl, ?_⟩
      have drop : ¬ (low ≤ (n : Int) ∧ (n : Int) < high) → (decide (low ≤ (n : Int)) && decide ((n : Int) < high) && (f1 (n : Int).toNat).1) = false := fun z => by
        rw [Bool.and_eq_false_iff, Bool.and_eq_false_iff, decide_eq_false_iff_not, decide_eq_false_iff_not]
        by_cases h : low ≤ (n : Int)
        · exact .inl (.inr fun y => z ⟨h, y⟩)
        · exact .inl (.inl h)
      refine ⟨_, rfl, _, rfl, _, _, rfl, rfl, _, rfl, ifd (fun h1 => ?_) (fun h1 => ?_)⟩
      · refine ⟨_, rfl, _, _, rfl, rfl, ?_⟩
        refine ⟨_, rfl, ifd (fun h2 => ?_) (fun h2 => hdrop (drop fun z => h2 z.2) _ (Same.refl _))⟩
        have ek2 : ∀ b, (f1 n).1 = b → (decide (low ≤ (n : Int)) && decide ((n : Int) < high) && (f1 (n : Int).toNat).1) = b := fun b e => by
          rw [decide_eq_true h1, decide_eq_true h2]; exact e
        refine ⟨_, rfl, _, rfl, D, .ref qy, rfl, get, qy, _, 0, _, rfl, rfl, (wy.same sG).at', atI_nat (j := 0) rfl, (f1 n).1, rfl, ifb (fun e => ⟨_, rfl, hkeep (ek2 _ e) _ (Same.refl _)⟩) (fun e => hdrop (ek2 _ e) _ (Same.refl _))⟩
      · exact ⟨_, rfl, hdrop (drop fun z => h1 z.1) _ (Same.refl _)⟩
    intro H19 s19 hD19
    have er := range_due k18 ek hp hs bd
    have S19 := S17.trans (s18.trans s19)
    have c19 := (c17.same s18).same s19
    have k19 := k18.same s19
    have kk19 := (kk17.same s18).same s19
    have co19 := (co17.same s18).same s19
    have P19 := (P17.same s18).same s19
    clear c17 k17 kk17 co17 P17 S17 s18 s19 fy k18 hq1 hD2
    -- the marked ones now
    refine ⟨_, rfl, c, _, rfl, c19.ins, rfl, c, L, _, _, rfl, c19, fun qh H20 s20 hqh hqh2 => ?_⟩
    have em := marked_eq k19 ek hp hs
    have nqh : qh ≠ L := fun z => by subst z; rw [c19.lst] at hqh; cases hqh
    have c20 := c19.same s20
    refine ⟨_, rfl, c, _, rfl, c20.ins, rfl, _, rfl, _, rfl, c, L, _, _, low, high, rfl, c20, bd, fun q5 H21 s21 hq5 hq52 => ⟨_, rfl, ?_⟩⟩
    have e5 : H21 q5 = some (.lst ((ys.filter fun y => decide (low ≤ y) && decide (y < high) && (f1 y.toNat).1).map V.int)) := by
      rw [hq52, ← er, List.map_map]; rfl
    have d5 := s21 _ _ (s20 _ _ hD19)
    have eh := s21 _ _ hqh2
    generalize (ys.filter fun y => decide (low ≤ y) && decide (y < high) && (f1 y.toNat).1) = ms at e5 d5
    have sh := ints_shaped ms
    refine ⟨.list (ms.map .int), .list (ms.map .int), .lst (.inl (.of e5)) (dp_ints ms), .lst (.inl (.of d5)) (dp_ints ms), sh, sh, _, rfl, ifnb (fun e => by rw [PySem.SeqAt.eqv_refl _ (PySem.SeqAt.canLay_of_shaped sh)] at e; cases e) (fun _ => ?_)⟩
    have c21 := c20.same s21
    have k21 := (k19.same s20).same s21
    have kk21 := (kk19.same s20).same s21
    have co21 := (co19.same s20).same s21
    have P21 := (P19.same s20).same s21
    have S21 := (S19.trans s20).trans s21
    clear e5 d5 sh hq52 hq5 hD19 er c19 k19 kk19 co19 P19 S19 s20 s21 c20 hqh2 hqh
    -- cleared
    refine ⟨_, rfl, c, _, rfl, c21.ins, rfl, _, rfl, _, rfl, c, L, _, _, low, high, rfl, c21, bd, fun G22 vs1 s22 c22 => ⟨rfl, ?_⟩⟩
    refine ⟨_, rfl, ifnd (fun z => absurd rfl z) (fun _ => ?_)⟩
    have bL : But L G22 (upd G22 L (.lst vs1)) := but_self
    have lL := (c21.same s22).lst
    have k23 := (k21.same s22).but lL bL
    have kk23 := (kk21.same s22).but lL bL
    have co23 := (co21.same s22).but bL lL nlst.1 nlst.2 nLL
    have P23 : Pool (upd G22 L (.lst vs1)) p x5 y5 := ⟨by rw [upd_ne ((c21.same s22).pool (P21.same s22))]; exact s22 _ _ P21.1, P21.2⟩
    have S23 := same_at (o := .lst vs1) nL3 (S21.trans s22)
    have eh23 : (upd G22 L (.lst vs1)) qh = some (.lst (((List.range 4096).filter fun (i : Nat) => (f1 i).1).map fun (i : Nat) => V.int (i : Int))) := by rw [upd_ne nqh]; exact s22 _ _ eh
    generalize upd G22 L (.lst vs1) = H23 at c22 k23 kk23 co23 P23 S23 eh23 ⊢
    clear c21 k21 kk21 co21 P21 S21 s22 eh bL lL nqh
    -- a told list changed changes none
    refine ⟨_, rfl, c, _, rfl, c22.ins, rfl, c, L, _, _, rfl, c22, fun q6 H24 s24 hq6 hq62 => ?_⟩
    refine ⟨.inl ⟨rfl, _, .of hq62⟩, q6, _, .non, rfl, rfl, hq62, ?_, ?_⟩
    · rw [List.length_map]
      have h1 := List.length_filter_le (fun (i : Nat) => (clears f1 low high i).1) (List.range 4096)
      rw [List.length_range] at h1
      rw [sizeLine_eq]; omega
    have s25 : Same H23 (upd H24 q6 (.lst ((((List.range 4096).filter fun (i : Nat) => (clears f1 low high i).1).map fun (i : Nat) => V.int (i : Int)) ++ [.non]))) := same_at hq6 s24
    generalize upd H24 q6 (.lst ((((List.range 4096).filter fun (i : Nat) => (clears f1 low high i).1).map fun (i : Nat) => V.int (i : Int)) ++ [.non])) = H25 at s25 ⊢
    have c25 := c22.same s25
    have k25 := k23.same s25
    have kk25 := kk23.same s25
    have co25 := co23.same s25
    have P25 := P23.same s25
    have S25 := S23.trans s25
    have eh25 := s25 _ _ eh23
    clear c22 k23 kk23 co23 P23 S23 s25 s24 hq62 hq6 eh23
    -- the held ones are those of the book kept
    refine ⟨_, rfl, _, rfl, Dk, kvs1, ks, rfl, .of kk25.at', ek, by omega, fun zs q7 hpz hsz hq7 => ?_⟩
    have lz := hpz.length_eq
    have fz : (upd H25 q7 (.lst (zs.map V.int))) q7 = some (.lst (zs.map V.int)) := upd_same
    have s26 := same_new (o := HO.lst (zs.map V.int)) hq7
    generalize upd H25 q7 (.lst (zs.map V.int)) = H26 at fz s26 ⊢
    have kk26 := kk25.same s26
    refine ⟨q7, rfl, ⟨_, .of fz⟩, fun D2 hD2 => lc_sel (walk_list (K := K) (a := q7) (xs := zs.map V.int)) zs (fun y => (f1 y.toNat).1) (List.length_map ..) (by omega) yat_ints hD2 (fun H' s => .of (s _ _ fz)) ?_ ?_⟩
    · intro y G hy sG kk mm' hkeep hdrop
      obtain ⟨n, qy, hn, rfl, ev, wy⟩ := key_val kk26 ek (hpz.mem_iff.mp hy)
      have get : DGet G Dk (.int (n : Int)) (some (.ref qy)) := by rw [← ev]; exact DGet.k (k := .inl (n : Int)) (sG _ _ kk26.at')
      refine ⟨rfl, ?_⟩
      exact ⟨_, rfl, _, rfl, Dk, .ref qy, rfl, get, qy, _, 0, _, rfl, rfl, (wy.same sG).at', atI_nat (j := 0) rfl, (f1 n).1, rfl, ifb (fun e => ⟨_, rfl, hkeep e _ (Same.refl _)⟩) (fun e => hdrop e _ (Same.refl _))⟩
    intro H27 s27 hD27
    have em2 := marked_eq kk25 ek hpz hsz
    have e27 : H27 qh = some (.lst ((zs.filter fun y => (f1 y.toNat).1).map V.int)) := by
      rw [s27 _ _ (s26 _ _ eh25), ← em2, List.map_map]; rfl
    generalize (zs.filter fun y => (f1 y.toNat).1) = ms2 at hD27 e27
    have sh := ints_shaped ms2
    refine ⟨.list (ms2.map .int), .list (ms2.map .int), .lst (.inl (.of e27)) (dp_ints ms2), .lst (.inl (.of hD27)) (dp_ints ms2), sh, sh, _, rfl, ifnb (fun e => by rw [PySem.SeqAt.eqv_refl _ (PySem.SeqAt.canLay_of_shaped sh)] at e; cases e) (fun _ => ?_)⟩
    have s28 := s26.trans s27
    have c28 := c25.same s28
    have k28 := k25.same s28
    have kk28 := kk25.same s28
    have co28 := co25.same s28
    have P28 := P25.same s28
    have S28 := S25.trans s28
    clear c25 k25 kk25 co25 P25 S25 s28 s26 s27 hD27 e27 sh em2 fz kk26 hq7 hD2 eh25
    -- the book without what was cleared
    refine ⟨D, .dK kvs1, k28.at', trivial, fun od => ?_⟩
    have fD : (upd H27 D (.frz od (.dK kvs1))) D = some (.frz od (.dK kvs1)) := upd_same
    refine ⟨_, rfl, D, od, rfl, .inl ⟨kvs1, fD, fun D2 hD2 => ?_⟩⟩
    have nD2 : D2 ≠ D := fun z => by subst z; rw [fD] at hD2; cases hD2
    refine lc_it walk_keys (fun i F => Same (upd H27 D (.frz od (.dK kvs1))) F ∧ ∃ ps : List Addr, F D2 = some (.lst (ps.map V.ref)) ∧ Paired (fun p kv => p ≠ D2 ∧ p ≠ D ∧ F p = some (.tup [L2.kV kv.1, kv.2])) ps ((kvs1.take i).filter fun kv => !inK low high kv.1)) ⟨same_new hD2, [], upd_same, .nil⟩ (fun i F _ p => p.1 _ _ fD) ?_ ?_
    · rintro i x F F' hi ⟨sF, ps, hps, hpp⟩ ⟨rfl, kx, vx, hkx, rfl⟩
      have hi : i < kvs1.length := hi
      have mx := List.mem_of_getElem? hkx
      have hv := valV_mem k28.nd mx
      obtain ⟨n, hn, rfl⟩ := k28.keys _ mx
      have tk : kvs1.take (i + 1) = kvs1.take i ++ [(.inl (n : Int), vx)] := by rw [List.take_add_one, hkx]; rfl
      have get : ∀ G, Same F' G → DGet G D (.int (n : Int)) (some vx) := fun G s => by rw [← hv]; exact .inl ⟨kvs1, .inl (n : Int), .inr ⟨od, s _ _ (sF _ _ fD)⟩, rfl, rfl⟩
      have lps := Paired.len' hpp
      have lps2 : ps.length ≤ 8 := by
        have h1 := List.length_filter_le (fun kv : Key × V => !inK low high kv.1) (kvs1.take i)
        rw [List.length_take] at h1
        omega
      refine ⟨rfl, ?_⟩
      have done : inK low high (.inl (n : Int)) = true → Same (upd H27 D (.frz od (.dK kvs1))) F' ∧ ∃ ps : List Addr, F' D2 = some (.lst (ps.map V.ref)) ∧ Paired (fun p kv => p ≠ D2 ∧ p ≠ D ∧ F' p = some (.tup [L2.kV kv.1, kv.2])) ps ((kvs1.take (i + 1)).filter fun kv => !inK low high kv.1) := fun e => ⟨sF, ps, hps, by
        rw [tk, List.filter_append, show List.filter (fun kv : Key × V => !inK low high kv.1) [(.inl (n : Int), vx)] = [] from by rw [List.filter_cons, if_neg (by show ¬ (!inK low high (.inl (n : Int))) = true; rw [e]; decide)]; rfl, List.append_nil]
        exact hpp⟩
      have more : inK low high (.inl (n : Int)) = false → ∀ t, F' t = none → ∃ acc, (upd F' t (.tup [.int (n : Int), vx])) D2 = some (.lst acc) ∧ acc.length < sizeLine ∧ (Same (upd H27 D (.frz od (.dK kvs1))) (upd (upd F' t (.tup [.int (n : Int), vx])) D2 (.lst (acc ++ [.ref t]))) ∧ ∃ ps : List Addr, (upd (upd F' t (.tup [.int (n : Int), vx])) D2 (.lst (acc ++ [.ref t]))) D2 = some (.lst (ps.map V.ref)) ∧ Paired (fun p kv => p ≠ D2 ∧ p ≠ D ∧ (upd (upd F' t (.tup [.int (n : Int), vx])) D2 (.lst (acc ++ [.ref t]))) p = some (.tup [L2.kV kv.1, kv.2])) ps ((kvs1.take (i + 1)).filter fun kv => !inK low high kv.1)) := fun e t ht => by
        have nt : t ≠ D2 := fun z => by subst z; rw [hps] at ht; cases ht
        have ntD : t ≠ D := fun z => by subst z; rw [sF _ _ fD] at ht; cases ht
        refine ⟨_, same_new ht _ _ hps, by rw [List.length_map]; exact szn (by omega), fun b o e' => ?_, ps ++ [t], ?_, ?_⟩
        · rw [upd_ne (ne_of_none e' hD2)]
          exact same_new ht _ _ (sF b o e')
        · rw [upd_same, List.map_append]; rfl
        · rw [tk, List.filter_append, show List.filter (fun kv : Key × V => !inK low high kv.1) [(.inl (n : Int), vx)] = [(.inl (n : Int), vx)] from by rw [List.filter_cons, if_pos (by show (!inK low high (.inl (n : Int))) = true; rw [e]; decide)]; rfl]
          exact Paired.snoc (Paired.imp' (fun p kv ⟨h1, h2, h3⟩ => ⟨h1, h2, by rw [upd_ne h1]; exact same_new ht _ _ h3⟩) hpp) ⟨nt, ntD, by rw [upd_ne nt, upd_same]; rfl⟩
      clear hpp
      refine ⟨_, rfl, _, rfl, _, _, rfl, rfl, _, rfl, ifd (fun h1 => ?_) (fun h1 => ?_)⟩
      · refine ⟨_, rfl, _, _, rfl, rfl, ?_⟩
        refine ⟨_, rfl, ?_⟩
        by_cases h2 : (n : Int) < high
        · rw [decide_eq_true h2]
          exact done (by simp [inK, h1, h2])
        · rw [decide_eq_false h2]
          exact ⟨_, rfl, _, rfl, _, rfl, D, _, rfl, get _ (Same.refl _), sz (by simp), fun t ht => more (by simp [inK, h2]) t ht⟩
      · refine ⟨_, rfl, ?_⟩
        exact ⟨_, rfl, _, rfl, _, rfl, D, _, rfl, get _ (Same.refl _), sz (by simp), fun t ht => more (by simp [inK, h1]) t ht⟩
    rintro F ⟨sF, ps, hps, hpp⟩
    rw [List.take_length] at hpp
    refine ⟨sF _ _ fD, ?_⟩
    have s29 := same_unlock k28.at' sF
    have hps2 : (upd F D (.dK kvs1)) D2 = some (.lst (ps.map V.ref)) := by rw [upd_ne nD2]; exact hps
    have hpp2 := Paired.imp' (G := fun p (kv : Key × V) => SqT K (upd F D (.dK kvs1)) p [L2.kV kv.1, kv.2]) (fun p kv ⟨h1, h2, h3⟩ => .of (by rw [upd_ne h2]; exact h3)) hpp
    generalize upd F D (.dK kvs1) = H29 at s29 hps2 hpp2 ⊢
    refine ⟨D2, ps, _, rfl, .of hps2, hpp2, fun Dn hDn => ?_⟩
    clear hpp hps sF hD2 fD nD2 hpp2
    have nDn3 := none_of (S28.trans s29) hDn
    have nnk : Dn ≠ Dk := fun z => by subst z; rw [s29 _ _ kk28.at'] at hDn; cases hDn
    have em3 : mergeK [] (kvs1.filter fun kv => !inK low high kv.1) = kvs1.filter fun kv => !inK low high kv.1 := mergeK_app _ [] (by rw [List.nil_append]; exact List.Nodup.sublist (List.Sublist.map _ List.filter_sublist) k28.nd)
    rw [em3]
    have fDn : (upd H29 Dn (.dK (kvs1.filter fun kv => !inK low high kv.1))) Dn = some (.dK (kvs1.filter fun kv => !inK low high kv.1)) := upd_same
    have s30 : Same H27 (upd H29 Dn (.dK (kvs1.filter fun kv => !inK low high kv.1))) := s29.trans (same_new hDn)
    generalize upd H29 Dn (.dK (kvs1.filter fun kv => !inK low high kv.1)) = H30 at fDn s30 ⊢
    have kn30 := k28.cut s30 fDn
    have c30 := c28.same s30
    have kk30 := kk28.same s30
    have co30 := co28.same s30
    have P30 := P28.same s30
    have S30 := S28.trans s30
    clear em3 hDn hps2 s29 c28 kk28 co28 P28 S28 s30 fDn k28
    have lc := List.length_filter_le (fun kv : Key × V => !inK low high kv.1) kvs1
    refine ⟨_, rfl, _, rfl, Dn, c, L, vs1, _, _, rfl, c30, kn30, by omega, fun H31 s31 => ⟨_, rfl, ?_⟩⟩
    refine ⟨_, rfl, _, rfl, Dk, o, Lo, _, _, _, rfl, co30.same s31, kk30.same s31, by omega, fun H32 s32 => ⟨_, rfl, ?_⟩⟩
    have s33 := s31.trans s32
    have c33 := c30.same s33
    have kn33 := kn30.same s33
    have kk33 := kk30.same s33
    have co33 := co30.same s33
    have P33 := P30.same s33
    have S33 := S30.trans s33
    clear c30 kn30 kk30 co30 P30 S30 s31 s32 s33
    have nkL : Dk ≠ L := fun z => by subst z; have := kk33.at'; rw [c33.lst] at this; cases this
    -- each cell tells what the book has
    refine ⟨Dk, .dK kvs1, kk33.at', trivial, fun od => ?_⟩
    have fK : (upd H32 Dk (.frz od (.dK kvs1))) Dk = some (.frz od (.dK kvs1)) := upd_same
    have bK : But Dk H32 (upd H32 Dk (.frz od (.dK kvs1))) := but_self
    have c34 := c33.but bK kk33.at' ndk.1 ndk.2 nkL
    have kn34 := kn33.butD kk33.at' nnk bK
    refine ⟨_, rfl, Dk, od, rfl, .inl ⟨kvs1, fK, fun D3 hD3 => lc_sel walk_keys ks (fun _ => false) lk (by omega) (yat_keys ek) hD3 (fun F s => s _ _ fK) ?_ ?_⟩⟩
    · intro y G hy sG kk mm' hkeep hdrop
      obtain ⟨n, hn, rfl⟩ := key_in kk33 ek hy
      refine ⟨rfl, ?_⟩
      have cG := c34.same sG
      have kG := kn34.same sG
      refine ⟨_, rfl, c, _, rfl, cG.ins, rfl, _, rfl, c, L, _, _, (n : Int), rfl, cG, by omega, by omega, fun q5 _ w5 => ?_⟩
      have w5 : Wk K G q5 (clears f1 low high n).1 (clears f1 low high n).2 := w5
      refine ⟨_, rfl, Dn, rfl, .inl ⟨_, .of kG.at'⟩, _, rfl, sz (by simp), fun qn hqn => ⟨_, DGet.k (k := .inl (n : Int)) (same_new hqn _ _ kG.at'), ?_⟩⟩
      obtain ⟨qo, eo, wo⟩ := kG.own hn hqn
      rw [eo]
      refine ⟨_, _, dWk (w5.same (same_new hqn)), dWk wo, dw_shp, dw_shp, _, rfl, ?_⟩
      rw [eqv_dw, decide_eq_true rfl]
      exact hdrop rfl _ (same_new hqn)
    intro F sF hF
    rw [filt_no] at hF
    refine ⟨sF _ _ fK, ?_⟩
    have n3 : D3 ≠ Dk := fun z => by subst z; rw [fK] at hD3; cases hD3
    have s35 := same_unlock kk33.at' sF
    have hF2 : (upd F Dk (.dK kvs1)) D3 = some (.lst []) := by rw [upd_ne n3]; exact hF
    generalize upd F Dk (.dK kvs1) = H35 at s35 hF2 ⊢
    refine ⟨sz (by simp), fun Le hLe => ⟨D3, Le, [], rfl, rfl, same_new hLe _ _ hF2, upd_same, ?_⟩⟩
    refine ⟨_, rfl, ifnb (fun e => by cases e) (fun _ => ?_)⟩
    have s36 := s35.trans (same_new (o := .lst []) hLe)
    generalize upd H35 Le (.lst []) = H36 at s36 ⊢
    have c36 := c33.same s36
    have kn36 := kn33.same s36
    have kk36 := kk33.same s36
    have co36 := co33.same s36
    have P36 := P33.same s36
    have S36 := S33.trans s36
    clear c33 kn33 kk33 co33 P33 S33 s35 s36 hF2 hLe n3 hF sF hD3 c34 kn34 bK fK
    -- what is gone
    refine ⟨Dk, .dK kvs1, kk36.at', trivial, fun od => ?_⟩
    have fK : (upd H36 Dk (.frz od (.dK kvs1))) Dk = some (.frz od (.dK kvs1)) := upd_same
    have bK : But Dk H36 (upd H36 Dk (.frz od (.dK kvs1))) := but_self
    have kn37 := kn36.butD kk36.at' nnk bK
    refine ⟨_, rfl, Dk, od, rfl, .inl ⟨kvs1, fK, fun D3 hD3 => lc_sel walk_keys ks (fun y => decide (low ≤ y) && decide (y < high) && decide (f1 y.toNat ≠ (false, 0))) lk (by omega) (yat_keys ek) hD3 (fun F s => s _ _ fK) ?_ ?_⟩⟩
    · intro y G hy sG kk mm' hkeep hdrop
      obtain ⟨n, qy, hn, rfl, ev, wy⟩ := key_val kk36 ek hy
      refine ⟨rfl, ?_⟩
      have kG := kn37.same sG
      have wG : Wk K G qy (f1 n).1 (f1 n).2 := (wy.but bK kk36.at' ndk.1).same sG
      have get : DGet G Dk (.int (n : Int)) (some (.ref qy)) := by rw [← ev]; exact .inl ⟨kvs1, .inl (n : Int), .inr ⟨od, sG _ _ fK⟩, rfl, rfl⟩
      refine ⟨_, rfl, _, rfl, Dn, _, rfl, DGet.k (k := .inl (n : Int)) kG.at', ?_⟩
      rw [valV_cut, ev]
      have ein : inK low high (.inl (n : Int)) = (decide (low ≤ (n : Int)) && decide ((n : Int) < high)) := rfl
      by_cases hin : inK low high (.inl (n : Int)) = true
      · rw [if_pos hin]
        refine ⟨_, rfl, ?_⟩
        refine ⟨_, rfl, _, rfl, Dk, .ref qy, rfl, get, sz (by simp), fun t ht => ?_⟩
        refine ⟨_, _, dWk (wG.same (same_new ht)), dpw (m := false) (a := 0) upd_same, dw_shp, dw_shp (m := false) (b := 0), _, rfl, ?_⟩
        rw [show PyData.eqv (dw (f1 n).1 (f1 n).2) (.tuple [.bool false, .int 0]) = decide (((f1 n).1, (f1 n).2) = (false, 0)) from eqv_dw]
        by_cases hz : f1 n = (false, 0)
        · rw [decide_eq_true (show ((f1 n).1, (f1 n).2) = (false, 0) from hz)]
          refine hdrop ?_ _ (same_new ht)
          rw [show f1 ((n : Int)).toNat = f1 n from rfl, show decide (f1 n ≠ (false, 0)) = false from decide_eq_false (fun z => z hz), Bool.and_false]
        · rw [decide_eq_false (show ¬ ((f1 n).1, (f1 n).2) = (false, 0) from hz)]
          refine ⟨_, rfl, hkeep ?_ _ (same_new ht)⟩
          rw [show f1 ((n : Int)).toNat = f1 n from rfl, decide_eq_true (show f1 n ≠ (false, 0) from hz), Bool.and_true, ← ein]; exact hin
      · rw [if_neg hin]
        refine ⟨_, rfl, hdrop ?_ _ (Same.refl _)⟩
        rw [← ein, Bool.not_eq_true _ |>.mp hin, Bool.false_and]
    intro F sF hF
    refine ⟨sF _ _ fK, ?_⟩
    have n3 : D3 ≠ Dk := fun z => by subst z; rw [fK] at hD3; cases hD3
    have s35 := same_unlock kk36.at' sF
    have hF2 : (upd F Dk (.dK kvs1)) D3 = some (.lst ((ks.filter fun y => decide (low ≤ y) && decide (y < high) && decide (f1 y.toNat ≠ (false, 0))).map V.int)) := by rw [upd_ne n3]; exact hF
    generalize upd F Dk (.dK kvs1) = H38 at s35 hF2 ⊢
    have c38 := c36.same s35
    have co38 := co36.same s35
    have gi := gone_iff (l := low) (h := high) kk36 ek
    refine ⟨_, rfl, _, rfl, c, _, rfl, c38.ins, .inl ⟨o, _, rfl, co38.ins⟩, c, L, _, _, _, rfl, c38, .inl ⟨o, Lo, _, _, rfl, co38, fun b hb => ⟨b, rfl, ?_⟩⟩⟩
    refine ⟨_, rfl, sz (by simp), fun Le hLe => ⟨D3, Le, _, rfl, rfl, same_new hLe _ _ hF2, upd_same, ?_⟩⟩
    have eb : b = ((ks.filter fun y => decide (low ≤ y) && decide (y < high) && decide (f1 y.toNat ≠ (false, 0))).map V.int).isEmpty := by
      rw [Bool.eq_iff_iff, List.isEmpty_iff, List.map_eq_nil_iff, ← gi]; exact hb
    rw [← eb]
    refine ⟨rfl, _, rfl, ifnd (fun z => absurd rfl z) (fun _ => ?_)⟩
    have s39 := s35.trans (same_new (o := .lst []) hLe)
    generalize upd H38 Le (.lst []) = H39 at s39 ⊢
    have c39 := c36.same s39
    have kn39 := kn36.same s39
    have co39 := co36.same s39
    have P39 := P36.same s39
    have S39 := S36.trans s39
    clear c36 kn36 kk36 co36 P36 S36 s35 s39 hF2 hLe n3 hF sF hD3 kn37 bK fK gi hb eb c38 co38
    -- the twin goes on by itself
    refine ⟨_, rfl, o, _, rfl, co39.ins, rfl, sz (by simp), fun t1 ht1 => ?_⟩
    
    have w1 : Wd (upd H39 t1 (.tup [.bl false, .int 77])) t1 false 77 := ⟨upd_same, by unfold W45; decide, fun z => by cases z⟩
    have s40 := same_new (o := HO.tup [.bl false, .int 77]) ht1
    generalize upd H39 t1 (.tup [.bl false, .int 77]) = H40 at w1 s40 ⊢
    refine ⟨o, Lo, _, _, t1, false, 77, 5, rfl, co39.same s40, w1, by decide, by decide, fun H41 s41 => ?_⟩
    have co41 := (co39.same s40).same s41
    have bL42 : But Lo H41 (upd H41 Lo (.lst (ws1.set (Int.toNat 5) (.ref t1)))) := but_self
    have c42 := ((c39.same s40).same s41).but bL42 co41.lst nlst.1 nlst.2 (Ne.symm nLL)
    have kn42 := ((kn39.same s40).same s41).but co41.lst bL42
    have P42 : Pool (upd H41 Lo (.lst (ws1.set (Int.toNat 5) (.ref t1)))) p x5 y5 := ⟨by rw [upd_ne npLo]; exact ((P39.same s40).same s41).1, P39.2⟩
    have S42 := same_at (o := .lst (ws1.set (Int.toNat 5) (.ref t1))) nLo3 ((S39.trans s40).trans s41)
    have co42 := (co41).lay (i := Int.toNat 5) (w1.same s41).k (by decide)
    generalize upd H41 Lo (.lst (ws1.set (Int.toNat 5) (.ref t1))) = H42 at c42 kn42 P42 S42 co42 ⊢
    clear bL42 co41 c39 kn39 P39 S39 s40 s41
    
    obtain ⟨pl, el, ow⟩ := rvd (s := Str.ofString "rw") (by decide +kernel)
    have er : rtx pl = Str.ofString "rw" := (V.str.inj el).symm
    have mw : decide (119 ∈ (rtx pl).cps.toList) = true := by rw [er]; decide +kernel
    refine ⟨_, rfl, o, _, rfl, co42.ins, rfl, 0, 16, 3, 0, pl, by rw [el]; rfl, ⟨by decide, by decide, by decide⟩, small_ex (by decide) (by decide), by decide, by decide, by decide, by decide, ow, fun s0 b0 qa J W sJ hqa wa => ?_⟩
    have d0 := due_nil (off := 0) W mw (by decide) (by decide)
    have d1 := due_nil (off := 1) W mw (by decide) (by decide)
    have a3 : fAt b0 = 3 := W.all.2.2.2.2.1
    refine ⟨o, Lo, _, _, qa, true, b0, 0, 4, rfl, co42.same sJ, wa, by decide, by decide, by decide, by decide, fun _ i2 hi2 i24 q7 H43 s43 w43 => ?_, fun bad => absurd d0 bad⟩
    have co43 := (co42.same sJ).same s43
    have bL44 : But Lo H43 (upd H43 Lo (.lst ((ws1.set (Int.toNat 5) (.ref t1)).set i2 (.ref q7)))) := but_self
    have c44 := ((c42.same sJ).same s43).but bL44 co43.lst nlst.1 nlst.2 (Ne.symm nLL)
    have kn44 := ((kn42.same sJ).same s43).but co43.lst bL44
    have P44 : Pool (upd H43 Lo (.lst ((ws1.set (Int.toNat 5) (.ref t1)).set i2 (.ref q7)))) p x5 y5 := ⟨by rw [upd_ne npLo]; exact ((P42.same sJ).same s43).1, P42.2⟩
    have S44 := same_at (o := .lst ((ws1.set (Int.toNat 5) (.ref t1)).set i2 (.ref q7))) nLo3 ((S42.trans sJ).trans s43)
    have co44 := co43.lay w43.k i24
    generalize upd H43 Lo (.lst ((ws1.set (Int.toNat 5) (.ref t1)).set i2 (.ref q7))) = H44 at c44 kn44 P44 S44 co44 ⊢
    clear bL44 co43 c42 kn42 P42 S42 sJ s43
    
    refine ⟨_, rfl, o, _, rfl, co44.ins, rfl, 0, 16, 3, 0, pl, by rw [el]; rfl, ⟨by decide, by decide, by decide⟩, small_ex (by decide) (by decide), by decide, by decide, by decide, by decide, ow, fun s1 b1 qb J W1 sJ hqb wb => ?_⟩
    have e1 := due_nil (off := 1) W1 mw (by decide) (by decide)
    refine ⟨sz (by simp), fun t2 ht2 => ?_⟩
    have w2 : Wd (upd J t2 (.tup [.bl false, .int 4])) t2 false 4 := ⟨upd_same, by unfold W45; decide, fun z => by cases z⟩
    have sK := same_new (o := HO.tup [.bl false, .int 4]) ht2
    generalize upd J t2 (.tup [.bl false, .int 4]) = J2 at w2 sK ⊢
    refine ⟨o, Lo, _, _, qb, true, b1, 1, t2, false, 4, rfl, (co44.same sJ).same sK, wb.same sK, w2, by decide, by decide, fun _ i3 hi3 i34 H45 s45 => ?_, fun bad => absurd (store_nil e1) bad⟩
    have co45 := ((co44.same sJ).same sK).same s45
    have bL46 : But Lo H45 (upd H45 Lo (.lst (((ws1.set (Int.toNat 5) (.ref t1)).set i2 (.ref q7)).set i3 (.ref t2)))) := but_self
    have c46 := (((c44.same sJ).same sK).same s45).but bL46 co45.lst nlst.1 nlst.2 (Ne.symm nLL)
    have kn46 := (((kn44.same sJ).same sK).same s45).but co45.lst bL46
    have P46 : Pool (upd H45 Lo (.lst (((ws1.set (Int.toNat 5) (.ref t1)).set i2 (.ref q7)).set i3 (.ref t2)))) p x5 y5 := ⟨by rw [upd_ne npLo]; exact (((P44.same sJ).same sK).same s45).1, P44.2⟩
    have S46 := same_at (o := .lst (((ws1.set (Int.toNat 5) (.ref t1)).set i2 (.ref q7)).set i3 (.ref t2))) nLo3 (((S44.trans sJ).trans sK).trans s45)
    have co46 := co45.lay (w2.same s45).k i34
    generalize upd H45 Lo (.lst (((ws1.set (Int.toNat 5) (.ref t1)).set i2 (.ref q7)).set i3 (.ref t2))) = H46 at c46 kn46 P46 S46 co46 ⊢
    clear bL46 co45 c44 kn44 P44 S44 sJ sK s45
    
    refine ⟨_, rfl, o, _, rfl, co46.ins, rfl, o, Lo, _, _, 8, 12, rfl, co46, ⟨by decide, by decide, by decide⟩, fun H47 vs2 s47 co48 => ?_⟩
    have co47 := co46.same s47
    have bL48 : But Lo H47 (upd H47 Lo (.lst (vs2))) := but_self
    have c48 := (c46.same s47).but bL48 co47.lst nlst.1 nlst.2 (Ne.symm nLL)
    have kn48 := (kn46.same s47).but co47.lst bL48
    have P48 : Pool (upd H47 Lo (.lst (vs2))) p x5 y5 := ⟨by rw [upd_ne npLo]; exact (P46.same s47).1, P46.2⟩
    have S48 := same_at (o := .lst (vs2)) nLo3 (S46.trans s47)
    generalize upd H47 Lo (.lst vs2) = H48 at c48 kn48 P48 S48 ⊢
    clear bL48 co47 c46 kn46 P46 S46 s47
    
    -- and the other cells are as they were
    refine ⟨_, rfl, _, rfl, Dn, c, L, _, _, _, rfl, c48, kn48, by omega, fun H49 s49 => ⟨_, rfl, ?_⟩⟩
    refine ⟨_, rfl, p, x5, y5, rfl, P48.same s49, fun qv m5 b5 x6 y6 H50 B50 P50 hq5 w50 => ?_⟩
    refine ⟨qv, m5, b5, rfl, w50, fun H51 s51 => ⟨_, rfl, ?_⟩⟩
    exact ⟨_, _, _, _, _, _, _, _, _, _, _, _, rfl, s3.trans ((same_but hp0 (S48.trans s49) B50).trans s51)⟩
  · rintro σ H3 ⟨v1, v2, v3, v4, v5, v6, v7, v8, v9, v10, v11, v12, rfl, s3⟩
    exact q _
end
theorem all_mk {l : PySem.W.OpenLaw} {w : World} {K : PySem.W.Frag} {h : Heap} {mg : Str → Option Value} {fa f0 f1 f2 f3 f4 f5 f6 f7 f8 f9 f10 f11 f12 f13 f14 f15 f16 f17 f18 f19 f20 f21 f22 f23 f24 f25 f26 f27 f28 f29 f30 f31 f32 f33 f34 f35 f36 f37 f38 f39 f40 f41 f42 f43 f44 f45 f46 f47 f48 f49 f50 : Addr} (X : K.In h) (G : h.Ns mainGlobals mg) (hfa : mg "law" = some (.ref fa))
    {od0 an0 od1 an1 od2 an2 od3 an3 od4 an4 od5 an5 od6 an6 od7 an7 od8 an8 od9 an9 od10 an10 od11 an11 od12 an12 od13 an13 od14 an14 od15 an15 od16 an16 od17 an17 od18 an18 od19 an19 od20 an20 od21 an21 od22 an22 od23 an23 od24 an24 od25 an25 od26 an26 od27 an27 od28 an28 od29 an29 od30 an30 od31 an31 od32 an32 od33 an33 od34 an34 od35 an35 od36 an36 od37 an37 od38 an38 od39 an39 od40 an40 od41 an41 od42 an42 od43 an43 od44 an44 od45 an45 od46 an46 od47 an47 od48 an48 od49 an49 od50 an50 : Option Addr} {sl0 sl1 sl2 sl3 sl4 sl5 sl6 sl7 sl8 sl9 sl10 sl11 sl12 sl13 sl14 sl15 sl16 sl17 sl18 sl19 sl20 sl21 sl22 sl23 sl24 sl25 sl26 sl27 sl28 sl29 sl30 sl31 sl32 sl33 sl34 sl35 sl36 sl37 sl38 sl39 sl40 sl41 sl42 sl43 sl44 sl45 sl46 sl47 sl48 sl49 sl50 : Array (Option Value)} {oc0 kV0 dc0 pm0 cd0 ct0 oc1 kV1 dc1 pm1 cd1 ct1 oc2 kV2 dc2 pm2 cd2 ct2 oc3 kV3 dc3 pm3 cd3 ct3 oc4 kV4 dc4 pm4 cd4 ct4 oc5 kV5 dc5 pm5 cd5 ct5 oc6 kV6 dc6 pm6 cd6 ct6 oc7 kV7 dc7 pm7 cd7 ct7 oc8 kV8 dc8 pm8 cd8 ct8 oc9 kV9 dc9 pm9 cd9 ct9 oc10 kV10 dc10 pm10 cd10 ct10 oc11 kV11 dc11 pm11 cd11 ct11 oc12 kV12 dc12 pm12 cd12 ct12 oc13 kV13 dc13 pm13 cd13 ct13 oc14 kV14 dc14 pm14 cd14 ct14 oc15 kV15 dc15 pm15 cd15 ct15 oc16 kV16 dc16 pm16 cd16 ct16 oc17 kV17 dc17 pm17 cd17 ct17 oc18 kV18 dc18 pm18 cd18 ct18 oc19 kV19 dc19 pm19 cd19 ct19 oc20 kV20 dc20 pm20 cd20 ct20 oc21 kV21 dc21 pm21 cd21 ct21 oc22 kV22 dc22 pm22 cd22 ct22 oc23 kV23 dc23 pm23 cd23 ct23 oc24 kV24 dc24 pm24 cd24 ct24 oc25 kV25 dc25 pm25 cd25 ct25 oc26 kV26 dc26 pm26 cd26 ct26 oc27 kV27 dc27 pm27 cd27 ct27 oc28 kV28 dc28 pm28 cd28 ct28 oc29 kV29 dc29 pm29 cd29 ct29 oc30 kV30 dc30 pm30 cd30 ct30 oc31 kV31 dc31 pm31 cd31 ct31 oc32 kV32 dc32 pm32 cd32 ct32 oc33 kV33 dc33 pm33 cd33 ct33 oc34 kV34 dc34 pm34 cd34 ct34 oc35 kV35 dc35 pm35 cd35 ct35 oc36 kV36 dc36 pm36 cd36 ct36 oc37 kV37 dc37 pm37 cd37 ct37 oc38 kV38 dc38 pm38 cd38 ct38 oc39 kV39 dc39 pm39 cd39 ct39 oc40 kV40 dc40 pm40 cd40 ct40 oc41 kV41 dc41 pm41 cd41 ct41 oc42 kV42 dc42 pm42 cd42 ct42 oc43 kV43 dc43 pm43 cd43 ct43 oc44 kV44 dc44 pm44 cd44 ct44 oc45 kV45 dc45 pm45 cd45 ct45 oc46 kV46 dc46 pm46 cd46 ct46 oc47 kV47 dc47 pm47 cd47 ct47 oc48 kV48 dc48 pm48 cd48 ct48 oc49 kV49 dc49 pm49 cd49 ct49 oc50 kV50 dc50 pm50 cd50 ct50 : Value}
    {C_Cells : Addr} (ac_Cells : PySem.W.nsIn K mainGlobals "Cells" = some (some (.ref C_Cells)))
    (cpg_Cells : PySem.W.plainGet K C_Cells Str.empty = true)
    (chd_Cells : PySem.W.hasDictIn K C_Cells = true)
    (cpo_Cells : PySem.W.plainOver K C_Cells = true)
    (csa_Cells : PySem.W.findIn K (.ref C_Cells) "__setattr__" = some (some (.builtin "object.__setattr__")))
    (cmk_Cells : PySem.W.makesIn K C_Cells = true)
    (ckc_Cells : PySem.W.keepIn K (.ref C_Cells) = true)
    (cst_Cells : PySem.W.subIn K (.type "str") (.ref C_Cells) = some false)
    (cne_Cells : PySem.W.findIn K (.ref C_Cells) "__ne__" = some (some (.builtin "object.__ne__")))
    (cmr_Cells : PySem.W.mroIn K C_Cells (.type "object") = some true)
    (cta_Cells : PySem.W.findIn K (.ref C_Cells) "__class__" = some (some (.builtin "object.__class__")))
    (ctb_Cells : PySem.W.specialIn K (.builtin "object.__class__") "__get__" = some (some (.builtin "getset_descriptor.__get__")))
    (ctc_Cells : PySem.W.takesIn K (.builtin "object.__class__") = some true)
    (ckt_Cells : PySem.W.kitOne K (.ref C_Cells) (.ref C_Cells) = some true)
    (cks_Cells : PySem.W.kitOne K (.type "str") (.ref C_Cells) = some false)
    (nf_Cells__words : PySem.W.findIn K (.ref C_Cells) "_words" = some none)
    (a0 : PySem.W.nsIn K mainGlobals "is_whole" = some (some (.ref f0))) (l0 : K.lookup f0 = some ⟨oc0, od0, .func (PySem.W.fnOf "is_whole" "is_whole" (defArgs s_is_whole) (defBody s_is_whole) (defScope s_is_whole) .none kV0 dc0 pm0 an0 cd0 ct0), sl0⟩) (c0 : PySem.W.codeIn K cd0 "is_whole" = true) (k0 : PySem.W.keepIn K (.ref f0) = true)
    (a1 : PySem.W.nsIn K mainGlobals "are_bounds" = some (some (.ref f1))) (l1 : K.lookup f1 = some ⟨oc1, od1, .func (PySem.W.fnOf "are_bounds" "are_bounds" (defArgs s_are_bounds) (defBody s_are_bounds) (defScope s_are_bounds) .none kV1 dc1 pm1 an1 cd1 ct1), sl1⟩) (c1 : PySem.W.codeIn K cd1 "are_bounds" = true) (k1 : PySem.W.keepIn K (.ref f1) = true)
    (a2 : PySem.W.nsIn K mainGlobals "look_at_bounds" = some (some (.ref f2))) (l2 : K.lookup f2 = some ⟨oc2, od2, .func (PySem.W.fnOf "look_at_bounds" "look_at_bounds" (defArgs s_look_at_bounds) (defBody s_look_at_bounds) (defScope s_look_at_bounds) .none kV2 dc2 pm2 an2 cd2 ct2), sl2⟩) (c2 : PySem.W.codeIn K cd2 "look_at_bounds" = true) (k2 : PySem.W.keepIn K (.ref f2) = true)
    (a3 : PySem.W.nsIn K mainGlobals "_has_some" = some (some (.ref f3))) (l3 : K.lookup f3 = some ⟨oc3, od3, .func (PySem.W.fnOf "_has_some" "_has_some" (defArgs s__has_some) (defBody s__has_some) (defScope s__has_some) .none kV3 dc3 pm3 an3 cd3 ct3), sl3⟩) (c3 : PySem.W.codeIn K cd3 "_has_some" = true) (k3 : PySem.W.keepIn K (.ref f3) = true)
    (a4 : PySem.W.nsIn K mainGlobals "_lead_one_way" = some (some (.ref f4))) (l4 : K.lookup f4 = some ⟨oc4, od4, .func (PySem.W.fnOf "_lead_one_way" "_lead_one_way" (defArgs s__lead_one_way) (defBody s__lead_one_way) (defScope s__lead_one_way) .none kV4 dc4 pm4 an4 cd4 ct4), sl4⟩) (c4 : PySem.W.codeIn K cd4 "_lead_one_way" = true) (k4 : PySem.W.keepIn K (.ref f4) = true)
    (a5 : PySem.W.nsIn K mainGlobals "field" = some (some (.ref f5))) (l5 : K.lookup f5 = some ⟨oc5, od5, .func (PySem.W.fnOf "field" "field" (defArgs s_field) (defBody s_field) (defScope s_field) .none kV5 dc5 pm5 an5 cd5 ct5), sl5⟩) (c5 : PySem.W.codeIn K cd5 "field" = true) (k5 : PySem.W.keepIn K (.ref f5) = true)
    (a6 : PySem.W.nsIn K mainGlobals "rights_in" = some (some (.ref f6))) (l6 : K.lookup f6 = some ⟨oc6, od6, .func (PySem.W.fnOf "rights_in" "rights_in" (defArgs s_rights_in) (defBody s_rights_in) (defScope s_rights_in) .none kV6 dc6 pm6 an6 cd6 ct6), sl6⟩) (c6 : PySem.W.codeIn K cd6 "rights_in" = true) (k6 : PySem.W.keepIn K (.ref f6) = true)
    (a7 : PySem.W.nsIn K mainGlobals "_tell" = some (some (.ref f7))) (l7 : K.lookup f7 = some ⟨oc7, od7, .func (PySem.W.fnOf "_tell" "_tell" (defArgs s__tell) (defBody s__tell) (defScope s__tell) .none kV7 dc7 pm7 an7 cd7 ct7), sl7⟩) (c7 : PySem.W.codeIn K cd7 "_tell" = true) (k7 : PySem.W.keepIn K (.ref f7) = true)
    (a8 : PySem.W.nsIn K mainGlobals "_may_be_marked" = some (some (.ref f8))) (l8 : K.lookup f8 = some ⟨oc8, od8, .func (PySem.W.fnOf "_may_be_marked" "_may_be_marked" (defArgs s__may_be_marked) (defBody s__may_be_marked) (defScope s__may_be_marked) .none kV8 dc8 pm8 an8 cd8 ct8), sl8⟩) (c8 : PySem.W.codeIn K cd8 "_may_be_marked" = true) (k8 : PySem.W.keepIn K (.ref f8) = true)
    (a9 : PySem.W.nsIn K mainGlobals "is_word" = some (some (.ref f9))) (l9 : K.lookup f9 = some ⟨oc9, od9, .func (PySem.W.fnOf "is_word" "is_word" (defArgs s_is_word) (defBody s_is_word) (defScope s_is_word) .none kV9 dc9 pm9 an9 cd9 ct9), sl9⟩) (c9 : PySem.W.codeIn K cd9 "is_word" = true) (k9 : PySem.W.keepIn K (.ref f9) = true)
    (a10 : PySem.W.nsIn K mainGlobals "is_lawful" = some (some (.ref f10))) (l10 : K.lookup f10 = some ⟨oc10, od10, .func (PySem.W.fnOf "is_lawful" "is_lawful" (defArgs s_is_lawful) (defBody s_is_lawful) (defScope s_is_lawful) .none kV10 dc10 pm10 an10 cd10 ct10), sl10⟩) (c10 : PySem.W.codeIn K cd10 "is_lawful" = true) (k10 : PySem.W.keepIn K (.ref f10) = true)
    (a11 : PySem.W.nsIn K mainGlobals "bounds_in" = some (some (.ref f11))) (l11 : K.lookup f11 = some ⟨oc11, od11, .func (PySem.W.fnOf "bounds_in" "bounds_in" (defArgs s_bounds_in) (defBody s_bounds_in) (defScope s_bounds_in) .none kV11 dc11 pm11 an11 cd11 ct11), sl11⟩) (c11 : PySem.W.codeIn K cd11 "bounds_in" = true) (k11 : PySem.W.keepIn K (.ref f11) = true)
    (a12 : PySem.W.nsIn K mainGlobals "fields_of" = some (some (.ref f12))) (l12 : K.lookup f12 = some ⟨oc12, od12, .func (PySem.W.fnOf "fields_of" "fields_of" (defArgs s_fields_of) (defBody s_fields_of) (defScope s_fields_of) .none kV12 dc12 pm12 an12 cd12 ct12), sl12⟩) (c12 : PySem.W.codeIn K cd12 "fields_of" = true) (k12 : PySem.W.keepIn K (.ref f12) = true)
    (a13 : PySem.W.nsIn K mainGlobals "is_sealed" = some (some (.ref f13))) (l13 : K.lookup f13 = some ⟨oc13, od13, .func (PySem.W.fnOf "is_sealed" "is_sealed" (defArgs s_is_sealed) (defBody s_is_sealed) (defScope s_is_sealed) .none kV13 dc13 pm13 an13 cd13 ct13), sl13⟩) (c13 : PySem.W.codeIn K cd13 "is_sealed" = true) (k13 : PySem.W.keepIn K (.ref f13) = true)
    (a14 : PySem.W.nsIn K mainGlobals "without_mark" = some (some (.ref f14))) (l14 : K.lookup f14 = some ⟨oc14, od14, .func (PySem.W.fnOf "without_mark" "without_mark" (defArgs s_without_mark) (defBody s_without_mark) (defScope s_without_mark) .none kV14 dc14 pm14 an14 cd14 ct14), sl14⟩) (c14 : PySem.W.codeIn K cd14 "without_mark" = true) (k14 : PySem.W.keepIn K (.ref f14) = true)
    (a15 : PySem.W.nsIn K mainGlobals "_look_at_address" = some (some (.ref f15))) (l15 : K.lookup f15 = some ⟨oc15, od15, .func (PySem.W.fnOf "_look_at_address" "_look_at_address" (defArgs s__look_at_address) (defBody s__look_at_address) (defScope s__look_at_address) .none kV15 dc15 pm15 an15 cd15 ct15), sl15⟩) (c15 : PySem.W.codeIn K cd15 "_look_at_address" = true) (k15 : PySem.W.keepIn K (.ref f15) = true)
    (a16 : PySem.W.nsIn K mainGlobals "_reached" = some (some (.ref f16))) (l16 : K.lookup f16 = some ⟨oc16, od16, .func (PySem.W.fnOf "_reached" "_reached" (defArgs s__reached) (defBody s__reached) (defScope s__reached) .none kV16 dc16 pm16 an16 cd16 ct16), sl16⟩) (c16 : PySem.W.codeIn K cd16 "_reached" = true) (k16 : PySem.W.keepIn K (.ref f16) = true)
    (a17 : PySem.W.nsIn K mainGlobals "_look_at_stored" = some (some (.ref f17))) (l17 : K.lookup f17 = some ⟨oc17, od17, .func (PySem.W.fnOf "_look_at_stored" "_look_at_stored" (defArgs s__look_at_stored) (defBody s__look_at_stored) (defScope s__look_at_stored) .none kV17 dc17 pm17 an17 cd17 ct17), sl17⟩) (c17 : PySem.W.codeIn K cd17 "_look_at_stored" = true) (k17 : PySem.W.keepIn K (.ref f17) = true)
    (m18 : PySem.W.findIn K (.ref C_Cells) "__init__" = some (some (.ref f18))) (n18 : PySem.W.isFn K (.ref f18) = true)
    (l18 : K.lookup f18 = some ⟨oc18, od18, .func (PySem.W.fnOf "__init__" "Cells.__init__" (defArgs s_Cells___init__) (defBody s_Cells___init__) (defScope s_Cells___init__) .none kV18 dc18 pm18 an18 cd18 ct18), sl18⟩) (c18 : PySem.W.codeIn K cd18 "Cells.__init__" = true) (k18 : PySem.W.keepIn K (.ref f18) = true)
    (m19 : PySem.W.findIn K (.ref C_Cells) "store" = some (some (.ref f19))) (n19 : PySem.W.isFn K (.ref f19) = true)
    (l19 : K.lookup f19 = some ⟨oc19, od19, .func (PySem.W.fnOf "store" "Cells.store" (defArgs s_Cells_store) (defBody s_Cells_store) (defScope s_Cells_store) .none kV19 dc19 pm19 an19 cd19 ct19), sl19⟩) (c19 : PySem.W.codeIn K cd19 "Cells.store" = true) (k19 : PySem.W.keepIn K (.ref f19) = true)
    (m20 : PySem.W.findIn K (.ref C_Cells) "poke" = some (some (.ref f20))) (n20 : PySem.W.isFn K (.ref f20) = true)
    (l20 : K.lookup f20 = some ⟨oc20, od20, .func (PySem.W.fnOf "poke" "Cells.poke" (defArgs s_Cells_poke) (defBody s_Cells_poke) (defScope s_Cells_poke) .none kV20 dc20 pm20 an20 cd20 ct20), sl20⟩) (c20 : PySem.W.codeIn K cd20 "Cells.poke" = true) (k20 : PySem.W.keepIn K (.ref f20) = true)
    (m21 : PySem.W.findIn K (.ref C_Cells) "lay" = some (some (.ref f21))) (n21 : PySem.W.isFn K (.ref f21) = true)
    (l21 : K.lookup f21 = some ⟨oc21, od21, .func (PySem.W.fnOf "lay" "Cells.lay" (defArgs s_Cells_lay) (defBody s_Cells_lay) (defScope s_Cells_lay) .none kV21 dc21 pm21 an21 cd21 ct21), sl21⟩) (c21 : PySem.W.codeIn K cd21 "Cells.lay" = true) (k21 : PySem.W.keepIn K (.ref f21) = true)
    (m22 : PySem.W.findIn K (.ref C_Cells) "cell" = some (some (.ref f22))) (n22 : PySem.W.isFn K (.ref f22) = true)
    (l22 : K.lookup f22 = some ⟨oc22, od22, .func (PySem.W.fnOf "cell" "Cells.cell" (defArgs s_Cells_cell) (defBody s_Cells_cell) (defScope s_Cells_cell) .none kV22 dc22 pm22 an22 cd22 ct22), sl22⟩) (c22 : PySem.W.codeIn K cd22 "Cells.cell" = true) (k22 : PySem.W.keepIn K (.ref f22) = true)
    (m23 : PySem.W.findIn K (.ref C_Cells) "marked" = some (some (.ref f23))) (n23 : PySem.W.isFn K (.ref f23) = true)
    {D23 : Addr}
    (l23 : K.lookup f23 = some ⟨oc23, od23, .func (PySem.W.fnOf "marked" "Cells.marked" (defArgs s_Cells_marked) (defBody s_Cells_marked) (defScope s_Cells_marked) (.ref D23) kV23 dc23 pm23 an23 cd23 ct23), sl23⟩) (c23 : PySem.W.codeIn K cd23 "Cells.marked" = true) (k23 : PySem.W.keepIn K (.ref f23) = true)
    {dd23 : Option Addr} {dn23 : Nat} {dsl23 : Array (Option Value)} {dt23_0 dt23_1 : Tok} (dl23 : K.lookup D23 = some ⟨.type "tuple", dd23, .seq #[Value.int 0 dt23_0, Value.int 4096 dt23_1] dn23, dsl23⟩)
    (a24 : PySem.W.nsIn K mainGlobals "_law_take" = some (some (.ref f24))) (l24 : K.lookup f24 = some ⟨oc24, od24, .func (PySem.W.fnOf "_law_take" "_law_take" (defArgs s__law_take) (defBody s__law_take) (defScope s__law_take) .none kV24 dc24 pm24 an24 cd24 ct24), sl24⟩) (c24 : PySem.W.codeIn K cd24 "_law_take" = true) (k24 : PySem.W.keepIn K (.ref f24) = true)
    (a25 : PySem.W.nsIn K mainGlobals "_law_pool" = some (some (.ref f25))) (l25 : K.lookup f25 = some ⟨oc25, od25, .func (PySem.W.fnOf "_law_pool" "_law_pool" (defArgs s__law_pool) (defBody s__law_pool) (defScope s__law_pool) .none kV25 dc25 pm25 an25 cd25 ct25), sl25⟩) (c25 : PySem.W.codeIn K cd25 "_law_pool" = true) (k25 : PySem.W.keepIn K (.ref f25) = true)
    (a26 : PySem.W.nsIn K mainGlobals "_law_least" = some (some (.ref f26))) (l26 : K.lookup f26 = some ⟨oc26, od26, .func (PySem.W.fnOf "_law_least" "_law_least" (defArgs s__law_least) (defBody s__law_least) (defScope s__law_least) .none kV26 dc26 pm26 an26 cd26 ct26), sl26⟩) (c26 : PySem.W.codeIn K cd26 "_law_least" = true) (k26 : PySem.W.keepIn K (.ref f26) = true)
    (a27 : PySem.W.nsIn K mainGlobals "_law_made" = some (some (.ref f27))) (l27 : K.lookup f27 = some ⟨oc27, od27, .func (PySem.W.fnOf "_law_made" "_law_made" (defArgs s__law_made) (defBody s__law_made) (defScope s__law_made) .none kV27 dc27 pm27 an27 cd27 ct27), sl27⟩) (c27 : PySem.W.codeIn K cd27 "_law_made" = true) (k27 : PySem.W.keepIn K (.ref f27) = true)
    (a28 : PySem.W.nsIn K mainGlobals "_law_bounds" = some (some (.ref f28))) (l28 : K.lookup f28 = some ⟨oc28, od28, .func (PySem.W.fnOf "_law_bounds" "_law_bounds" (defArgs s__law_bounds) (defBody s__law_bounds) (defScope s__law_bounds) .none kV28 dc28 pm28 an28 cd28 ct28), sl28⟩) (c28 : PySem.W.codeIn K cd28 "_law_bounds" = true) (k28 : PySem.W.keepIn K (.ref f28) = true)
    (a29 : PySem.W.nsIn K mainGlobals "_law_rights" = some (some (.ref f29))) (l29 : K.lookup f29 = some ⟨oc29, od29, .func (PySem.W.fnOf "_law_rights" "_law_rights" (defArgs s__law_rights) (defBody s__law_rights) (defScope s__law_rights) .none kV29 dc29 pm29 an29 cd29 ct29), sl29⟩) (c29 : PySem.W.codeIn K cd29 "_law_rights" = true) (k29 : PySem.W.keepIn K (.ref f29) = true)
    (a30 : PySem.W.nsIn K mainGlobals "_law_word" = some (some (.ref f30))) (l30 : K.lookup f30 = some ⟨oc30, od30, .func (PySem.W.fnOf "_law_word" "_law_word" (defArgs s__law_word) (defBody s__law_word) (defScope s__law_word) .none kV30 dc30 pm30 an30 cd30 ct30), sl30⟩) (c30 : PySem.W.codeIn K cd30 "_law_word" = true) (k30 : PySem.W.keepIn K (.ref f30) = true)
    (m31 : PySem.W.findIn K (.ref C_Cells) "clear" = some (some (.ref f31))) (n31 : PySem.W.isFn K (.ref f31) = true)
    (l31 : K.lookup f31 = some ⟨oc31, od31, .func (PySem.W.fnOf "clear" "Cells.clear" (defArgs s_Cells_clear) (defBody s_Cells_clear) (defScope s_Cells_clear) .none kV31 dc31 pm31 an31 cd31 ct31), sl31⟩) (c31 : PySem.W.codeIn K cd31 "Cells.clear" = true) (k31 : PySem.W.keepIn K (.ref f31) = true)
    (m32 : PySem.W.findIn K (.ref C_Cells) "twin" = some (some (.ref f32))) (n32 : PySem.W.isFn K (.ref f32) = true)
    (l32 : K.lookup f32 = some ⟨oc32, od32, .func (PySem.W.fnOf "twin" "Cells.twin" (defArgs s_Cells_twin) (defBody s_Cells_twin) (defScope s_Cells_twin) .none kV32 dc32 pm32 an32 cd32 ct32), sl32⟩) (c32 : PySem.W.codeIn K cd32 "Cells.twin" = true) (k32 : PySem.W.keepIn K (.ref f32) = true)
    (m33 : PySem.W.findIn K (.ref C_Cells) "__eq__" = some (some (.ref f33))) (n33 : PySem.W.isFn K (.ref f33) = true)
    (l33 : K.lookup f33 = some ⟨oc33, od33, .func (PySem.W.fnOf "__eq__" "Cells.__eq__" (defArgs s_Cells___eq__) (defBody s_Cells___eq__) (defScope s_Cells___eq__) .none kV33 dc33 pm33 an33 cd33 ct33), sl33⟩) (c33 : PySem.W.codeIn K cd33 "Cells.__eq__" = true) (k33 : PySem.W.keepIn K (.ref f33) = true)
    (m34 : PySem.W.findIn K (.ref C_Cells) "marked" = some (some (.ref f34))) (n34 : PySem.W.isFn K (.ref f34) = true)
    {D34 : Addr}
    (l34 : K.lookup f34 = some ⟨oc34, od34, .func (PySem.W.fnOf "marked" "Cells.marked" (defArgs s_Cells_marked__v2) (defBody s_Cells_marked__v2) (defScope s_Cells_marked__v2) (.ref D34) kV34 dc34 pm34 an34 cd34 ct34), sl34⟩) (c34 : PySem.W.codeIn K cd34 "Cells.marked" = true) (k34 : PySem.W.keepIn K (.ref f34) = true)
    {dd34 : Option Addr} {dn34 : Nat} {dsl34 : Array (Option Value)} {dt34_0 dt34_1 : Tok} (dl34 : K.lookup D34 = some ⟨.type "tuple", dd34, .seq #[Value.int 0 dt34_0, Value.int 4096 dt34_1] dn34, dsl34⟩)
    (a35 : PySem.W.nsIn K mainGlobals "_look_at_address" = some (some (.ref f35))) (l35 : K.lookup f35 = some ⟨oc35, od35, .func (PySem.W.fnOf "_look_at_address" "_look_at_address" (defArgs s__look_at_address__v1) (defBody s__look_at_address__v1) (defScope s__look_at_address__v1) .none kV35 dc35 pm35 an35 cd35 ct35), sl35⟩) (c35 : PySem.W.codeIn K cd35 "_look_at_address" = true) (k35 : PySem.W.keepIn K (.ref f35) = true)
    (a36 : PySem.W.nsIn K mainGlobals "_reached" = some (some (.ref f36))) (l36 : K.lookup f36 = some ⟨oc36, od36, .func (PySem.W.fnOf "_reached" "_reached" (defArgs s__reached__v1) (defBody s__reached__v1) (defScope s__reached__v1) .none kV36 dc36 pm36 an36 cd36 ct36), sl36⟩) (c36 : PySem.W.codeIn K cd36 "_reached" = true) (k36 : PySem.W.keepIn K (.ref f36) = true)
    (a37 : PySem.W.nsIn K mainGlobals "look_at_bounds" = some (some (.ref f37))) (l37 : K.lookup f37 = some ⟨oc37, od37, .func (PySem.W.fnOf "look_at_bounds" "look_at_bounds" (defArgs s_look_at_bounds__v1) (defBody s_look_at_bounds__v1) (defScope s_look_at_bounds__v1) .none kV37 dc37 pm37 an37 cd37 ct37), sl37⟩) (c37 : PySem.W.codeIn K cd37 "look_at_bounds" = true) (k37 : PySem.W.keepIn K (.ref f37) = true)
    (m38 : PySem.W.findIn K (.ref C_Cells) "cell" = some (some (.ref f38))) (n38 : PySem.W.isFn K (.ref f38) = true)
    (l38 : K.lookup f38 = some ⟨oc38, od38, .func (PySem.W.fnOf "cell" "Cells.cell" (defArgs s_Cells_cell__v1) (defBody s_Cells_cell__v1) (defScope s_Cells_cell__v1) .none kV38 dc38 pm38 an38 cd38 ct38), sl38⟩) (c38 : PySem.W.codeIn K cd38 "Cells.cell" = true) (k38 : PySem.W.keepIn K (.ref f38) = true)
    (m39 : PySem.W.findIn K (.ref C_Cells) "lay" = some (some (.ref f39))) (n39 : PySem.W.isFn K (.ref f39) = true)
    (l39 : K.lookup f39 = some ⟨oc39, od39, .func (PySem.W.fnOf "lay" "Cells.lay" (defArgs s_Cells_lay__v1) (defBody s_Cells_lay__v1) (defScope s_Cells_lay__v1) .none kV39 dc39 pm39 an39 cd39 ct39), sl39⟩) (c39 : PySem.W.codeIn K cd39 "Cells.lay" = true) (k39 : PySem.W.keepIn K (.ref f39) = true)
    (m40 : PySem.W.findIn K (.ref C_Cells) "clear" = some (some (.ref f40))) (n40 : PySem.W.isFn K (.ref f40) = true)
    (l40 : K.lookup f40 = some ⟨oc40, od40, .func (PySem.W.fnOf "clear" "Cells.clear" (defArgs s_Cells_clear__v1) (defBody s_Cells_clear__v1) (defScope s_Cells_clear__v1) .none kV40 dc40 pm40 an40 cd40 ct40), sl40⟩) (c40 : PySem.W.codeIn K cd40 "Cells.clear" = true) (k40 : PySem.W.keepIn K (.ref f40) = true)
    (m41 : PySem.W.findIn K (.ref C_Cells) "marked" = some (some (.ref f41))) (n41 : PySem.W.isFn K (.ref f41) = true)
    {D41 : Addr}
    (l41 : K.lookup f41 = some ⟨oc41, od41, .func (PySem.W.fnOf "marked" "Cells.marked" (defArgs s_Cells_marked__v1) (defBody s_Cells_marked__v1) (defScope s_Cells_marked__v1) (.ref D41) kV41 dc41 pm41 an41 cd41 ct41), sl41⟩) (c41 : PySem.W.codeIn K cd41 "Cells.marked" = true) (k41 : PySem.W.keepIn K (.ref f41) = true)
    {dd41 : Option Addr} {dn41 : Nat} {dsl41 : Array (Option Value)} {dt41_0 dt41_1 : Tok} (dl41 : K.lookup D41 = some ⟨.type "tuple", dd41, .seq #[Value.int 0 dt41_0, Value.int 4096 dt41_1] dn41, dsl41⟩)
    (m42 : PySem.W.findIn K (.ref C_Cells) "load" = some (some (.ref f42))) (n42 : PySem.W.isFn K (.ref f42) = true)
    (l42 : K.lookup f42 = some ⟨oc42, od42, .func (PySem.W.fnOf "load" "Cells.load" (defArgs s_Cells_load__v1) (defBody s_Cells_load__v1) (defScope s_Cells_load__v1) .none kV42 dc42 pm42 an42 cd42 ct42), sl42⟩) (c42 : PySem.W.codeIn K cd42 "Cells.load" = true) (k42 : PySem.W.keepIn K (.ref f42) = true)
    (m43 : PySem.W.findIn K (.ref C_Cells) "store" = some (some (.ref f43))) (n43 : PySem.W.isFn K (.ref f43) = true)
    (l43 : K.lookup f43 = some ⟨oc43, od43, .func (PySem.W.fnOf "store" "Cells.store" (defArgs s_Cells_store__v1) (defBody s_Cells_store__v1) (defScope s_Cells_store__v1) .none kV43 dc43 pm43 an43 cd43 ct43), sl43⟩) (c43 : PySem.W.codeIn K cd43 "Cells.store" = true) (k43 : PySem.W.keepIn K (.ref f43) = true)
    (m44 : PySem.W.findIn K (.ref C_Cells) "poke" = some (some (.ref f44))) (n44 : PySem.W.isFn K (.ref f44) = true)
    (l44 : K.lookup f44 = some ⟨oc44, od44, .func (PySem.W.fnOf "poke" "Cells.poke" (defArgs s_Cells_poke__v1) (defBody s_Cells_poke__v1) (defScope s_Cells_poke__v1) .none kV44 dc44 pm44 an44 cd44 ct44), sl44⟩) (c44 : PySem.W.codeIn K cd44 "Cells.poke" = true) (k44 : PySem.W.keepIn K (.ref f44) = true)
    (a45 : PySem.W.nsIn K mainGlobals "_law_said" = some (some (.ref f45))) (l45 : K.lookup f45 = some ⟨oc45, od45, .func (PySem.W.fnOf "_law_said" "_law_said" (defArgs s__law_said) (defBody s__law_said) (defScope s__law_said) .none kV45 dc45 pm45 an45 cd45 ct45), sl45⟩) (c45 : PySem.W.codeIn K cd45 "_law_said" = true) (k45 : PySem.W.keepIn K (.ref f45) = true)
    (a46 : PySem.W.nsIn K mainGlobals "_law_laid" = some (some (.ref f46))) (l46 : K.lookup f46 = some ⟨oc46, od46, .func (PySem.W.fnOf "_law_laid" "_law_laid" (defArgs s__law_laid) (defBody s__law_laid) (defScope s__law_laid) .none kV46 dc46 pm46 an46 cd46 ct46), sl46⟩) (c46 : PySem.W.codeIn K cd46 "_law_laid" = true) (k46 : PySem.W.keepIn K (.ref f46) = true)
    (a47 : PySem.W.nsIn K mainGlobals "_law_same" = some (some (.ref f47))) (l47 : K.lookup f47 = some ⟨oc47, od47, .func (PySem.W.fnOf "_law_same" "_law_same" (defArgs s__law_same) (defBody s__law_same) (defScope s__law_same) .none kV47 dc47 pm47 an47 cd47 ct47), sl47⟩) (c47 : PySem.W.codeIn K cd47 "_law_same" = true) (k47 : PySem.W.keepIn K (.ref f47) = true)
    (a48 : PySem.W.nsIn K mainGlobals "_law_emptied_so" = some (some (.ref f48))) (l48 : K.lookup f48 = some ⟨oc48, od48, .func (PySem.W.fnOf "_law_emptied_so" "_law_emptied_so" (defArgs s__law_emptied_so) (defBody s__law_emptied_so) (defScope s__law_emptied_so) .none kV48 dc48 pm48 an48 cd48 ct48), sl48⟩) (c48 : PySem.W.codeIn K cd48 "_law_emptied_so" = true) (k48 : PySem.W.keepIn K (.ref f48) = true)
    (a49 : PySem.W.nsIn K mainGlobals "_law_odd_so" = some (some (.ref f49))) (l49 : K.lookup f49 = some ⟨oc49, od49, .func (PySem.W.fnOf "_law_odd_so" "_law_odd_so" (defArgs s__law_odd_so) (defBody s__law_odd_so) (defScope s__law_odd_so) .none kV49 dc49 pm49 an49 cd49 ct49), sl49⟩) (c49 : PySem.W.codeIn K cd49 "_law_odd_so" = true) (k49 : PySem.W.keepIn K (.ref f49) = true)
    (a50 : PySem.W.nsIn K mainGlobals "law" = some (some (.ref f50))) (l50 : K.lookup f50 = some ⟨oc50, od50, .func (PySem.W.fnOf "law" "law" (defArgs s_law) (defBody s_law) (defScope s_law) .none kV50 dc50 pm50 an50 cd50 ct50), sl50⟩) (c50 : PySem.W.codeIn K cd50 "law" = true) (k50 : PySem.W.keepIn K (.ref f50) = true)
    (z_abs : PySem.W.nsIn K mainGlobals "abs" = some none)
    (z_any : PySem.W.nsIn K mainGlobals "any" = some none)
    (z_bool : PySem.W.nsIn K mainGlobals "bool" = some none)
    (z_dict : PySem.W.nsIn K mainGlobals "dict" = some none)
    (z_enumerate : PySem.W.nsIn K mainGlobals "enumerate" = some none)
    (z_int : PySem.W.nsIn K mainGlobals "int" = some none)
    (z_isinstance : PySem.W.nsIn K mainGlobals "isinstance" = some none)
    (z_len : PySem.W.nsIn K mainGlobals "len" = some none)
    (z_list : PySem.W.nsIn K mainGlobals "list" = some none)
    (z_max : PySem.W.nsIn K mainGlobals "max" = some none)
    (z_min : PySem.W.nsIn K mainGlobals "min" = some none)
    (z_range : PySem.W.nsIn K mainGlobals "range" = some none)
    (z_repr : PySem.W.nsIn K mainGlobals "repr" = some none)
    (z_sorted : PySem.W.nsIn K mainGlobals "sorted" = some none)
    (z_sum : PySem.W.nsIn K mainGlobals "sum" = some none)
    (z_tuple : PySem.W.nsIn K mainGlobals "tuple" = some none)
    {p_AT : Addr} {dd_AT : Option Addr} {n_AT : Nat} {sl_AT : Array (Option Value)} {t_AT_0 t_AT_1 : Tok} (v_AT : PySem.W.nsIn K mainGlobals "AT" = some (some (.ref p_AT))) (w_AT : K.lookup p_AT = some ⟨.type "tuple", dd_AT, .seq #[(Value.int 0 t_AT_0), (Value.int 12 t_AT_1)] n_AT, sl_AT⟩)
    {t_CELLS : Tok} (v_CELLS : PySem.W.nsIn K mainGlobals "CELLS" = some (some (.int 4096 t_CELLS)))
    {p_COUNT_LESS_ONE : Addr} {dd_COUNT_LESS_ONE : Option Addr} {n_COUNT_LESS_ONE : Nat} {sl_COUNT_LESS_ONE : Array (Option Value)} {t_COUNT_LESS_ONE_0 t_COUNT_LESS_ONE_1 : Tok} (v_COUNT_LESS_ONE : PySem.W.nsIn K mainGlobals "COUNT_LESS_ONE" = some (some (.ref p_COUNT_LESS_ONE))) (w_COUNT_LESS_ONE : K.lookup p_COUNT_LESS_ONE = some ⟨.type "tuple", dd_COUNT_LESS_ONE, .seq #[(Value.int 24 t_COUNT_LESS_ONE_0), (Value.int 4 t_COUNT_LESS_ONE_1)] n_COUNT_LESS_ONE, sl_COUNT_LESS_ONE⟩)
    {p_EMPTY : Addr} {dd_EMPTY : Option Addr} {n_EMPTY : Nat} {sl_EMPTY : Array (Option Value)} {t_EMPTY_1 : Tok} (v_EMPTY : PySem.W.nsIn K mainGlobals "EMPTY" = some (some (.ref p_EMPTY))) (w_EMPTY : K.lookup p_EMPTY = some ⟨.type "tuple", dd_EMPTY, .seq #[(Value.bool false), (Value.int 0 t_EMPTY_1)] n_EMPTY, sl_EMPTY⟩)
    {p_FIRST : Addr} {dd_FIRST : Option Addr} {n_FIRST : Nat} {sl_FIRST : Array (Option Value)} {t_FIRST_0 t_FIRST_1 : Tok} (v_FIRST : PySem.W.nsIn K mainGlobals "FIRST" = some (some (.ref p_FIRST))) (w_FIRST : K.lookup p_FIRST = some ⟨.type "tuple", dd_FIRST, .seq #[(Value.int 12 t_FIRST_0), (Value.int 12 t_FIRST_1)] n_FIRST, sl_FIRST⟩)
    {p_GROUPS : Addr} {dd_GROUPS : Option Addr} {n_GROUPS : Nat} {sl_GROUPS : Array (Option Value)} {t_GROUPS_0 t_GROUPS_1 t_GROUPS_2 : Tok} (v_GROUPS : PySem.W.nsIn K mainGlobals "GROUPS" = some (some (.ref p_GROUPS))) (w_GROUPS : K.lookup p_GROUPS = some ⟨.type "tuple", dd_GROUPS, .seq #[(Value.str (Str.ofString "rwlsn") t_GROUPS_0), (Value.str (Str.ofString "x") t_GROUPS_1), (Value.str (Str.ofString "co") t_GROUPS_2)] n_GROUPS, sl_GROUPS⟩)
    {p_KIND : Addr} {dd_KIND : Option Addr} {n_KIND : Nat} {sl_KIND : Array (Option Value)} {t_KIND_0 t_KIND_1 : Tok} (v_KIND : PySem.W.nsIn K mainGlobals "KIND" = some (some (.ref p_KIND))) (w_KIND : K.lookup p_KIND = some ⟨.type "tuple", dd_KIND, .seq #[(Value.int 41 t_KIND_0), (Value.int 4 t_KIND_1)] n_KIND, sl_KIND⟩)
    {t_LEAST_COUNT : Tok} (v_LEAST_COUNT : PySem.W.nsIn K mainGlobals "LEAST_COUNT" = some (some (.int 9 t_LEAST_COUNT)))
    {t_LEAST_OFFSET : Tok} (v_LEAST_OFFSET : PySem.W.nsIn K mainGlobals "LEAST_OFFSET" = some (some (.int (-8) t_LEAST_OFFSET)))
    {t_NOT_SEALED : Tok} (v_NOT_SEALED : PySem.W.nsIn K mainGlobals "NOT_SEALED" = some (some (.int 0 t_NOT_SEALED)))
    {t_POKED : Tok} (v_POKED : PySem.W.nsIn K mainGlobals "POKED" = some (some (.int 268435456 t_POKED)))
    {t_RIGHTS : Tok} (v_RIGHTS : PySem.W.nsIn K mainGlobals "RIGHTS" = some (some (.str (Str.ofString "rwlsnfxco") t_RIGHTS)))
    {p_RIGHTS_BITS : Addr} {dd_RIGHTS_BITS : Option Addr} {n_RIGHTS_BITS : Nat} {sl_RIGHTS_BITS : Array (Option Value)} {t_RIGHTS_BITS_0 t_RIGHTS_BITS_1 : Tok} (v_RIGHTS_BITS : PySem.W.nsIn K mainGlobals "RIGHTS_BITS" = some (some (.ref p_RIGHTS_BITS))) (w_RIGHTS_BITS : K.lookup p_RIGHTS_BITS = some ⟨.type "tuple", dd_RIGHTS_BITS, .seq #[(Value.int 32 t_RIGHTS_BITS_0), (Value.int 9 t_RIGHTS_BITS_1)] n_RIGHTS_BITS, sl_RIGHTS_BITS⟩)
    {p_STEP : Addr} {dd_STEP : Option Addr} {n_STEP : Nat} {sl_STEP : Array (Option Value)} {t_STEP_0 t_STEP_1 : Tok} (v_STEP : PySem.W.nsIn K mainGlobals "STEP" = some (some (.ref p_STEP))) (w_STEP : K.lookup p_STEP = some ⟨.type "tuple", dd_STEP, .seq #[(Value.int 28 t_STEP_0), (Value.int 4 t_STEP_1)] n_STEP, sl_STEP⟩)
    {t_TOP_OFFSET : Tok} (v_TOP_OFFSET : PySem.W.nsIn K mainGlobals "TOP_OFFSET" = some (some (.int 15 t_TOP_OFFSET)))
    {t_TOP_STEP : Tok} (v_TOP_STEP : PySem.W.nsIn K mainGlobals "TOP_STEP" = some (some (.int 8 t_TOP_STEP)))
    {t_WORTHS : Tok} (v_WORTHS : PySem.W.nsIn K mainGlobals "WORTHS" = some (some (.int 35184372088832 t_WORTHS)))
    {C_Fault : Addr} (ac_Fault : PySem.W.nsIn K mainGlobals "Fault" = some (some (.ref C_Fault)))
    {C_NoAddress : Addr} (ac_NoAddress : PySem.W.nsIn K mainGlobals "NoAddress" = some (some (.ref C_NoAddress)))
    {C_NoBounds : Addr} (ac_NoBounds : PySem.W.nsIn K mainGlobals "NoBounds" = some (some (.ref C_NoBounds)))
    {C_NoOffset : Addr} (ac_NoOffset : PySem.W.nsIn K mainGlobals "NoOffset" = some (some (.ref C_NoOffset)))
    {C_NoWord : Addr} (ac_NoWord : PySem.W.nsIn K mainGlobals "NoWord" = some (some (.ref C_NoWord)))
    {C_ReachError : Addr} (ac_ReachError : PySem.W.nsIn K mainGlobals "ReachError" = some (some (.ref C_ReachError)))
    {nm_Fault q_Fault : Str} {N_Fault B_Fault fi_Fault : Addr} {bs_Fault : List Value} {sn_Fault : List Str} {sub_Fault : List Value} {ab_Fault : Bool} {col_Fault : Option Bool} {dd_Fault od_Fault an_Fault : Option Addr} {m0_Fault m1_Fault m2_Fault m3_Fault m5_Fault : Option Value} {oc_Fault kV_Fault dc_Fault pm_Fault cd_Fault ct_Fault : Value} {osl_Fault : Array (Option Value)}
    (xl_Fault : K.lookup C_Fault = some (excClassObj nm_Fault q_Fault C_Fault N_Fault bs_Fault [.ref B_Fault, .type "ValueError", .type "Exception", .type "BaseException", .type "object"] true sn_Fault sub_Fault ab_Fault col_Fault dd_Fault m0_Fault m1_Fault m2_Fault m3_Fault m5_Fault "ValueError.__new__"))
    (sa_Fault : PySem.W.findIn K (.ref C_Fault) "__setattr__" = some (some (.builtin "object.__setattr__")))
    (eb_Fault : PySem.W.subIn K (.ref C_Fault) (.type "BaseException") = some true)
    (ty_Fault : PySem.W.typeIn K (.ref C_Fault) = some (.type "type"))
    (kc_Fault : PySem.W.keepIn K (.ref C_Fault) = true)
    (no_Fault : PySem.W.findIn K (.ref C_Fault) "word" = some none)
    (in_Fault : PySem.W.findIn K (.ref C_Fault) "__init__" = some (some (.ref fi_Fault))) (ti_Fault : PySem.W.typeIn K (.ref fi_Fault) = some (.type "function"))
    (li_Fault : K.lookup fi_Fault = some ⟨oc_Fault, od_Fault, .func (PySem.W.fnOf "__init__" "Fault.__init__" (defArgs si_Fault) (defBody si_Fault) (defScope si_Fault) .none kV_Fault dc_Fault pm_Fault an_Fault cd_Fault ct_Fault), osl_Fault⟩) (ci_Fault : PySem.W.codeIn K cd_Fault "Fault.__init__" = true) (ki_Fault : PySem.W.keepIn K (.ref fi_Fault) = true)
    {nm_NoAddress q_NoAddress : Str} {N_NoAddress B_NoAddress fi_NoAddress : Addr} {bs_NoAddress : List Value} {sn_NoAddress : List Str} {sub_NoAddress : List Value} {ab_NoAddress : Bool} {col_NoAddress : Option Bool} {dd_NoAddress od_NoAddress an_NoAddress : Option Addr} {m0_NoAddress m1_NoAddress m2_NoAddress m3_NoAddress m5_NoAddress : Option Value} {oc_NoAddress kV_NoAddress dc_NoAddress pm_NoAddress cd_NoAddress ct_NoAddress : Value} {osl_NoAddress : Array (Option Value)}
    (xl_NoAddress : K.lookup C_NoAddress = some (excClassObj nm_NoAddress q_NoAddress C_NoAddress N_NoAddress bs_NoAddress [.ref B_NoAddress, .type "ValueError", .type "Exception", .type "BaseException", .type "object"] true sn_NoAddress sub_NoAddress ab_NoAddress col_NoAddress dd_NoAddress m0_NoAddress m1_NoAddress m2_NoAddress m3_NoAddress m5_NoAddress "ValueError.__new__"))
    (sa_NoAddress : PySem.W.findIn K (.ref C_NoAddress) "__setattr__" = some (some (.builtin "object.__setattr__")))
    (eb_NoAddress : PySem.W.subIn K (.ref C_NoAddress) (.type "BaseException") = some true)
    (ty_NoAddress : PySem.W.typeIn K (.ref C_NoAddress) = some (.type "type"))
    (kc_NoAddress : PySem.W.keepIn K (.ref C_NoAddress) = true)
    (no_NoAddress : PySem.W.findIn K (.ref C_NoAddress) "text" = some none)
    (in_NoAddress : PySem.W.findIn K (.ref C_NoAddress) "__init__" = some (some (.ref fi_NoAddress))) (ti_NoAddress : PySem.W.typeIn K (.ref fi_NoAddress) = some (.type "function"))
    (li_NoAddress : K.lookup fi_NoAddress = some ⟨oc_NoAddress, od_NoAddress, .func (PySem.W.fnOf "__init__" "NoAddress.__init__" (defArgs si_NoAddress) (defBody si_NoAddress) (defScope si_NoAddress) .none kV_NoAddress dc_NoAddress pm_NoAddress an_NoAddress cd_NoAddress ct_NoAddress), osl_NoAddress⟩) (ci_NoAddress : PySem.W.codeIn K cd_NoAddress "NoAddress.__init__" = true) (ki_NoAddress : PySem.W.keepIn K (.ref fi_NoAddress) = true)
    {nm_NoBounds q_NoBounds : Str} {N_NoBounds B_NoBounds fi_NoBounds : Addr} {bs_NoBounds : List Value} {sn_NoBounds : List Str} {sub_NoBounds : List Value} {ab_NoBounds : Bool} {col_NoBounds : Option Bool} {dd_NoBounds od_NoBounds an_NoBounds : Option Addr} {m0_NoBounds m1_NoBounds m2_NoBounds m3_NoBounds m5_NoBounds : Option Value} {oc_NoBounds kV_NoBounds dc_NoBounds pm_NoBounds cd_NoBounds ct_NoBounds : Value} {osl_NoBounds : Array (Option Value)}
    (xl_NoBounds : K.lookup C_NoBounds = some (excClassObj nm_NoBounds q_NoBounds C_NoBounds N_NoBounds bs_NoBounds [.ref B_NoBounds, .type "ValueError", .type "Exception", .type "BaseException", .type "object"] true sn_NoBounds sub_NoBounds ab_NoBounds col_NoBounds dd_NoBounds m0_NoBounds m1_NoBounds m2_NoBounds m3_NoBounds m5_NoBounds "ValueError.__new__"))
    (sa_NoBounds : PySem.W.findIn K (.ref C_NoBounds) "__setattr__" = some (some (.builtin "object.__setattr__")))
    (eb_NoBounds : PySem.W.subIn K (.ref C_NoBounds) (.type "BaseException") = some true)
    (ty_NoBounds : PySem.W.typeIn K (.ref C_NoBounds) = some (.type "type"))
    (kc_NoBounds : PySem.W.keepIn K (.ref C_NoBounds) = true)
    (no_NoBounds : PySem.W.findIn K (.ref C_NoBounds) "text" = some none)
    (in_NoBounds : PySem.W.findIn K (.ref C_NoBounds) "__init__" = some (some (.ref fi_NoBounds))) (ti_NoBounds : PySem.W.typeIn K (.ref fi_NoBounds) = some (.type "function"))
    (li_NoBounds : K.lookup fi_NoBounds = some ⟨oc_NoBounds, od_NoBounds, .func (PySem.W.fnOf "__init__" "NoBounds.__init__" (defArgs si_NoBounds) (defBody si_NoBounds) (defScope si_NoBounds) .none kV_NoBounds dc_NoBounds pm_NoBounds an_NoBounds cd_NoBounds ct_NoBounds), osl_NoBounds⟩) (ci_NoBounds : PySem.W.codeIn K cd_NoBounds "NoBounds.__init__" = true) (ki_NoBounds : PySem.W.keepIn K (.ref fi_NoBounds) = true)
    {nm_NoOffset q_NoOffset : Str} {N_NoOffset B_NoOffset fi_NoOffset : Addr} {bs_NoOffset : List Value} {sn_NoOffset : List Str} {sub_NoOffset : List Value} {ab_NoOffset : Bool} {col_NoOffset : Option Bool} {dd_NoOffset od_NoOffset an_NoOffset : Option Addr} {m0_NoOffset m1_NoOffset m2_NoOffset m3_NoOffset m5_NoOffset : Option Value} {oc_NoOffset kV_NoOffset dc_NoOffset pm_NoOffset cd_NoOffset ct_NoOffset : Value} {osl_NoOffset : Array (Option Value)}
    (xl_NoOffset : K.lookup C_NoOffset = some (excClassObj nm_NoOffset q_NoOffset C_NoOffset N_NoOffset bs_NoOffset [.ref B_NoOffset, .type "ValueError", .type "Exception", .type "BaseException", .type "object"] true sn_NoOffset sub_NoOffset ab_NoOffset col_NoOffset dd_NoOffset m0_NoOffset m1_NoOffset m2_NoOffset m3_NoOffset m5_NoOffset "ValueError.__new__"))
    (sa_NoOffset : PySem.W.findIn K (.ref C_NoOffset) "__setattr__" = some (some (.builtin "object.__setattr__")))
    (eb_NoOffset : PySem.W.subIn K (.ref C_NoOffset) (.type "BaseException") = some true)
    (ty_NoOffset : PySem.W.typeIn K (.ref C_NoOffset) = some (.type "type"))
    (kc_NoOffset : PySem.W.keepIn K (.ref C_NoOffset) = true)
    (no_NoOffset : PySem.W.findIn K (.ref C_NoOffset) "text" = some none)
    (in_NoOffset : PySem.W.findIn K (.ref C_NoOffset) "__init__" = some (some (.ref fi_NoOffset))) (ti_NoOffset : PySem.W.typeIn K (.ref fi_NoOffset) = some (.type "function"))
    (li_NoOffset : K.lookup fi_NoOffset = some ⟨oc_NoOffset, od_NoOffset, .func (PySem.W.fnOf "__init__" "NoOffset.__init__" (defArgs si_NoOffset) (defBody si_NoOffset) (defScope si_NoOffset) .none kV_NoOffset dc_NoOffset pm_NoOffset an_NoOffset cd_NoOffset ct_NoOffset), osl_NoOffset⟩) (ci_NoOffset : PySem.W.codeIn K cd_NoOffset "NoOffset.__init__" = true) (ki_NoOffset : PySem.W.keepIn K (.ref fi_NoOffset) = true)
    {nm_NoWord q_NoWord : Str} {N_NoWord B_NoWord fi_NoWord : Addr} {bs_NoWord : List Value} {sn_NoWord : List Str} {sub_NoWord : List Value} {ab_NoWord : Bool} {col_NoWord : Option Bool} {dd_NoWord od_NoWord an_NoWord : Option Addr} {m0_NoWord m1_NoWord m2_NoWord m3_NoWord m5_NoWord : Option Value} {oc_NoWord kV_NoWord dc_NoWord pm_NoWord cd_NoWord ct_NoWord : Value} {osl_NoWord : Array (Option Value)}
    (xl_NoWord : K.lookup C_NoWord = some (excClassObj nm_NoWord q_NoWord C_NoWord N_NoWord bs_NoWord [.ref B_NoWord, .type "ValueError", .type "Exception", .type "BaseException", .type "object"] true sn_NoWord sub_NoWord ab_NoWord col_NoWord dd_NoWord m0_NoWord m1_NoWord m2_NoWord m3_NoWord m5_NoWord "ValueError.__new__"))
    (sa_NoWord : PySem.W.findIn K (.ref C_NoWord) "__setattr__" = some (some (.builtin "object.__setattr__")))
    (eb_NoWord : PySem.W.subIn K (.ref C_NoWord) (.type "BaseException") = some true)
    (ty_NoWord : PySem.W.typeIn K (.ref C_NoWord) = some (.type "type"))
    (kc_NoWord : PySem.W.keepIn K (.ref C_NoWord) = true)
    (no_NoWord : PySem.W.findIn K (.ref C_NoWord) "text" = some none)
    (in_NoWord : PySem.W.findIn K (.ref C_NoWord) "__init__" = some (some (.ref fi_NoWord))) (ti_NoWord : PySem.W.typeIn K (.ref fi_NoWord) = some (.type "function"))
    (li_NoWord : K.lookup fi_NoWord = some ⟨oc_NoWord, od_NoWord, .func (PySem.W.fnOf "__init__" "NoWord.__init__" (defArgs si_NoWord) (defBody si_NoWord) (defScope si_NoWord) .none kV_NoWord dc_NoWord pm_NoWord an_NoWord cd_NoWord ct_NoWord), osl_NoWord⟩) (ci_NoWord : PySem.W.codeIn K cd_NoWord "NoWord.__init__" = true) (ki_NoWord : PySem.W.keepIn K (.ref fi_NoWord) = true)
    (xb_NoAddress_ReachError : PySem.W.subIn K (.ref C_ReachError) (.type "BaseException") = some true)
    (xh_NoAddress_ReachError : PySem.W.hasDictIn K C_ReachError = true)
    (xt_NoAddress_ReachError : PySem.W.typeIn K (.ref C_ReachError) = some (.type "type"))
    (xs_NoAddress_ReachError : PySem.W.subIn K (.ref C_NoAddress) (.ref C_ReachError) = some true)
    (xb_NoWord_ReachError : PySem.W.subIn K (.ref C_ReachError) (.type "BaseException") = some true)
    (xh_NoWord_ReachError : PySem.W.hasDictIn K C_ReachError = true)
    (xt_NoWord_ReachError : PySem.W.typeIn K (.ref C_ReachError) = some (.type "type"))
    (xs_NoWord_ReachError : PySem.W.subIn K (.ref C_NoWord) (.ref C_ReachError) = some true)
    (xb_NoOffset_ReachError : PySem.W.subIn K (.ref C_ReachError) (.type "BaseException") = some true)
    (xh_NoOffset_ReachError : PySem.W.hasDictIn K C_ReachError = true)
    (xt_NoOffset_ReachError : PySem.W.typeIn K (.ref C_ReachError) = some (.type "type"))
    (xs_NoOffset_ReachError : PySem.W.subIn K (.ref C_NoOffset) (.ref C_ReachError) = some true)
    (xb_NoBounds_ReachError : PySem.W.subIn K (.ref C_ReachError) (.type "BaseException") = some true)
    (xh_NoBounds_ReachError : PySem.W.hasDictIn K C_ReachError = true)
    (xt_NoBounds_ReachError : PySem.W.typeIn K (.ref C_ReachError) = some (.type "type"))
    (xs_NoBounds_ReachError : PySem.W.subIn K (.ref C_NoBounds) (.ref C_ReachError) = some true)
    (ecg_NoAddress : PySem.W.findIn K (.ref C_NoAddress) "__getattribute__" = some (some (.builtin "BaseException.__getattribute__")))
    (eck_NoAddress : PySem.W.findIn K (.ref C_NoAddress) "__getattr__" = some none)
    (ecs_NoAddress : PySem.W.subIn K (.ref C_NoAddress) (.type "BaseException") = some true)
    (ecd_NoAddress : PySem.W.hasDictIn K C_NoAddress = true)
    (eca_NoAddress : PySem.W.findIn K (.ref C_NoAddress) "__class__" = some (some (.builtin "object.__class__")))
    (ecn_NoAddress : PySem.W.specialIn K (.builtin "object.__class__") "__get__" = some (some (.builtin "getset_descriptor.__get__")))
    (ect_NoAddress : PySem.W.takesIn K (.builtin "object.__class__") = some true)
    (ecm_NoAddress : PySem.W.mroIn K C_NoAddress (.type "object") = some true)
    (ecg_NoWord : PySem.W.findIn K (.ref C_NoWord) "__getattribute__" = some (some (.builtin "BaseException.__getattribute__")))
    (eck_NoWord : PySem.W.findIn K (.ref C_NoWord) "__getattr__" = some none)
    (ecs_NoWord : PySem.W.subIn K (.ref C_NoWord) (.type "BaseException") = some true)
    (ecd_NoWord : PySem.W.hasDictIn K C_NoWord = true)
    (eca_NoWord : PySem.W.findIn K (.ref C_NoWord) "__class__" = some (some (.builtin "object.__class__")))
    (ecn_NoWord : PySem.W.specialIn K (.builtin "object.__class__") "__get__" = some (some (.builtin "getset_descriptor.__get__")))
    (ect_NoWord : PySem.W.takesIn K (.builtin "object.__class__") = some true)
    (ecm_NoWord : PySem.W.mroIn K C_NoWord (.type "object") = some true)
    (ecg_NoOffset : PySem.W.findIn K (.ref C_NoOffset) "__getattribute__" = some (some (.builtin "BaseException.__getattribute__")))
    (eck_NoOffset : PySem.W.findIn K (.ref C_NoOffset) "__getattr__" = some none)
    (ecs_NoOffset : PySem.W.subIn K (.ref C_NoOffset) (.type "BaseException") = some true)
    (ecd_NoOffset : PySem.W.hasDictIn K C_NoOffset = true)
    (eca_NoOffset : PySem.W.findIn K (.ref C_NoOffset) "__class__" = some (some (.builtin "object.__class__")))
    (ecn_NoOffset : PySem.W.specialIn K (.builtin "object.__class__") "__get__" = some (some (.builtin "getset_descriptor.__get__")))
    (ect_NoOffset : PySem.W.takesIn K (.builtin "object.__class__") = some true)
    (ecm_NoOffset : PySem.W.mroIn K C_NoOffset (.type "object") = some true)
    (ecg_NoBounds : PySem.W.findIn K (.ref C_NoBounds) "__getattribute__" = some (some (.builtin "BaseException.__getattribute__")))
    (eck_NoBounds : PySem.W.findIn K (.ref C_NoBounds) "__getattr__" = some none)
    (ecs_NoBounds : PySem.W.subIn K (.ref C_NoBounds) (.type "BaseException") = some true)
    (ecd_NoBounds : PySem.W.hasDictIn K C_NoBounds = true)
    (eca_NoBounds : PySem.W.findIn K (.ref C_NoBounds) "__class__" = some (some (.builtin "object.__class__")))
    (ecn_NoBounds : PySem.W.specialIn K (.builtin "object.__class__") "__get__" = some (some (.builtin "getset_descriptor.__get__")))
    (ect_NoBounds : PySem.W.takesIn K (.builtin "object.__class__") = some true)
    (ecm_NoBounds : PySem.W.mroIn K C_NoBounds (.type "object") = some true)
    (kt_NoAddress_NoAddress : PySem.W.kitOne K (.ref C_NoAddress) (.ref C_NoAddress) = some true)
    (kt_NoAddress_NoWord : PySem.W.kitOne K (.ref C_NoAddress) (.ref C_NoWord) = some false)
    (kt_NoAddress_NoOffset : PySem.W.kitOne K (.ref C_NoAddress) (.ref C_NoOffset) = some false)
    (kt_NoAddress_NoBounds : PySem.W.kitOne K (.ref C_NoAddress) (.ref C_NoBounds) = some false)
    (kt_NoAddress_Fault : PySem.W.kitOne K (.ref C_NoAddress) (.ref C_Fault) = some false)
    (kt_NoWord_NoAddress : PySem.W.kitOne K (.ref C_NoWord) (.ref C_NoAddress) = some false)
    (kt_NoWord_NoWord : PySem.W.kitOne K (.ref C_NoWord) (.ref C_NoWord) = some true)
    (kt_NoWord_NoOffset : PySem.W.kitOne K (.ref C_NoWord) (.ref C_NoOffset) = some false)
    (kt_NoWord_NoBounds : PySem.W.kitOne K (.ref C_NoWord) (.ref C_NoBounds) = some false)
    (kt_NoWord_Fault : PySem.W.kitOne K (.ref C_NoWord) (.ref C_Fault) = some false)
    (kt_NoOffset_NoAddress : PySem.W.kitOne K (.ref C_NoOffset) (.ref C_NoAddress) = some false)
    (kt_NoOffset_NoWord : PySem.W.kitOne K (.ref C_NoOffset) (.ref C_NoWord) = some false)
    (kt_NoOffset_NoOffset : PySem.W.kitOne K (.ref C_NoOffset) (.ref C_NoOffset) = some true)
    (kt_NoOffset_NoBounds : PySem.W.kitOne K (.ref C_NoOffset) (.ref C_NoBounds) = some false)
    (kt_NoOffset_Fault : PySem.W.kitOne K (.ref C_NoOffset) (.ref C_Fault) = some false)
    (kt_NoBounds_NoAddress : PySem.W.kitOne K (.ref C_NoBounds) (.ref C_NoAddress) = some false)
    (kt_NoBounds_NoWord : PySem.W.kitOne K (.ref C_NoBounds) (.ref C_NoWord) = some false)
    (kt_NoBounds_NoOffset : PySem.W.kitOne K (.ref C_NoBounds) (.ref C_NoOffset) = some false)
    (kt_NoBounds_NoBounds : PySem.W.kitOne K (.ref C_NoBounds) (.ref C_NoBounds) = some true)
    (kt_NoBounds_Fault : PySem.W.kitOne K (.ref C_NoBounds) (.ref C_Fault) = some false)
    : ∀ (base : Heap) (H : Hp) (s : Shared) (a : Addr) (ns : List Int), K.In base → base.Ns mainGlobals mg → Env0 l.prog w K mg base callerA [] s H → SqL K H a (ns.map V.int) → ns.length ≤ 63 → codeAny (model l.prog w) callerA (.call (.ref fa) ⟨[.ref a], []⟩) (CR CX0 [] l.prog w H s (fun v _ => v = .bl true) fun _ _ _ => False) s := by
  have e := hfa.symm.trans (PySem.W.mg_of X G a50)
  cases e
  have F0 := fun_mk (st := s_is_whole) l0 c0 k0
  have F1 := fun_mk (st := s_are_bounds) l1 c1 k1
  have F2 := fun_mk (st := s_look_at_bounds) l2 c2 k2
  have F3 := fun_mk (st := s__has_some) l3 c3 k3
  have F4 := fun_mk (st := s__lead_one_way) l4 c4 k4
  have F5 := fun_mk (st := s_field) l5 c5 k5
  have F6 := fun_mk (st := s_rights_in) l6 c6 k6
  have F7 := fun_mk (st := s__tell) l7 c7 k7
  have F8 := fun_mk (st := s__may_be_marked) l8 c8 k8
  have F9 := fun_mk (st := s_is_word) l9 c9 k9
  have F10 := fun_mk (st := s_is_lawful) l10 c10 k10
  have F11 := fun_mk (st := s_bounds_in) l11 c11 k11
  have F12 := fun_mk (st := s_fields_of) l12 c12 k12
  have F13 := fun_mk (st := s_is_sealed) l13 c13 k13
  have F14 := fun_mk (st := s_without_mark) l14 c14 k14
  have F15 := fun_mk (st := s__look_at_address) l15 c15 k15
  have F16 := fun_mk (st := s__reached) l16 c16 k16
  have F17 := fun_mk (st := s__look_at_stored) l17 c17 k17
  have F18 := fun_mk (st := s_Cells___init__) l18 c18 k18
  have F19 := fun_mk (st := s_Cells_store) l19 c19 k19
  have F20 := fun_mk (st := s_Cells_poke) l20 c20 k20
  have F21 := fun_mk (st := s_Cells_lay) l21 c21 k21
  have F22 := fun_mk (st := s_Cells_cell) l22 c22 k22
  have F23 : FunD K "marked" "Cells.marked" (defArgs s_Cells_marked) (defBody s_Cells_marked) (defScope s_Cells_marked) [.int 0, .int 4096] [] f23 _ := ⟨⟨_, _, .ref D23, _, _, _, _, _, _, _, rfl, l23, c23, .inr ⟨by simp, D23, _, [_, _], _, rfl, dl23, rfl, .cons ⟨_, rfl⟩ (.cons ⟨_, rfl⟩ (.nil))⟩, .inl rfl⟩, k23⟩
  have F24 := fun_mk (st := s__law_take) l24 c24 k24
  have F25 := fun_mk (st := s__law_pool) l25 c25 k25
  have F26 := fun_mk (st := s__law_least) l26 c26 k26
  have F27 := fun_mk (st := s__law_made) l27 c27 k27
  have F28 := fun_mk (st := s__law_bounds) l28 c28 k28
  have F29 := fun_mk (st := s__law_rights) l29 c29 k29
  have F30 := fun_mk (st := s__law_word) l30 c30 k30
  have F31 := fun_mk (st := s_Cells_clear) l31 c31 k31
  have F32 := fun_mk (st := s_Cells_twin) l32 c32 k32
  have F33 := fun_mk (st := s_Cells___eq__) l33 c33 k33
  have F34 : FunD K "marked" "Cells.marked" (defArgs s_Cells_marked__v2) (defBody s_Cells_marked__v2) (defScope s_Cells_marked__v2) [.int 0, .int 4096] [] f34 _ := ⟨⟨_, _, .ref D34, _, _, _, _, _, _, _, rfl, l34, c34, .inr ⟨by simp, D34, _, [_, _], _, rfl, dl34, rfl, .cons ⟨_, rfl⟩ (.cons ⟨_, rfl⟩ (.nil))⟩, .inl rfl⟩, k34⟩
  have F35 := fun_mk (st := s__look_at_address__v1) l35 c35 k35
  have F36 := fun_mk (st := s__reached__v1) l36 c36 k36
  have F37 := fun_mk (st := s_look_at_bounds__v1) l37 c37 k37
  have F38 := fun_mk (st := s_Cells_cell__v1) l38 c38 k38
  have F39 := fun_mk (st := s_Cells_lay__v1) l39 c39 k39
  have F40 := fun_mk (st := s_Cells_clear__v1) l40 c40 k40
  have F41 : FunD K "marked" "Cells.marked" (defArgs s_Cells_marked__v1) (defBody s_Cells_marked__v1) (defScope s_Cells_marked__v1) [.int 0, .int 4096] [] f41 _ := ⟨⟨_, _, .ref D41, _, _, _, _, _, _, _, rfl, l41, c41, .inr ⟨by simp, D41, _, [_, _], _, rfl, dl41, rfl, .cons ⟨_, rfl⟩ (.cons ⟨_, rfl⟩ (.nil))⟩, .inl rfl⟩, k41⟩
  have F42 := fun_mk (st := s_Cells_load__v1) l42 c42 k42
  have F43 := fun_mk (st := s_Cells_store__v1) l43 c43 k43
  have F44 := fun_mk (st := s_Cells_poke__v1) l44 c44 k44
  have F45 := fun_mk (st := s__law_said) l45 c45 k45
  have F46 := fun_mk (st := s__law_laid) l46 c46 k46
  have F47 := fun_mk (st := s__law_same) l47 c47 k47
  have F48 := fun_mk (st := s__law_emptied_so) l48 c48 k48
  have F49 := fun_mk (st := s__law_odd_so) l49 c49 k49
  have F50 := fun_mk (st := s_law) l50 c50 k50
  have T : Txt K w mg := ⟨PySem.W.mg_none_of X G z_abs, PySem.W.mg_none_of X G z_any, PySem.W.mg_none_of X G z_bool, PySem.W.mg_none_of X G z_dict, PySem.W.mg_none_of X G z_enumerate, PySem.W.mg_none_of X G z_int, PySem.W.mg_none_of X G z_isinstance, PySem.W.mg_none_of X G z_len, PySem.W.mg_none_of X G z_list, PySem.W.mg_none_of X G z_max, PySem.W.mg_none_of X G z_min, PySem.W.mg_none_of X G z_range, PySem.W.mg_none_of X G z_repr, PySem.W.mg_none_of X G z_sorted, PySem.W.mg_none_of X G z_sum, PySem.W.mg_none_of X G z_tuple, ⟨_, PySem.W.mg_of X G v_AT, fun H => .inr ⟨_, _, _, w_AT, rfl, rfl, by show 2 ≤ sizeLine; decide, .cons ⟨_, rfl⟩ (.cons ⟨_, rfl⟩ (.nil))⟩⟩, ⟨_, PySem.W.mg_of X G v_CELLS⟩, ⟨_, PySem.W.mg_of X G v_COUNT_LESS_ONE, fun H => .inr ⟨_, _, _, w_COUNT_LESS_ONE, rfl, rfl, by show 2 ≤ sizeLine; decide, .cons ⟨_, rfl⟩ (.cons ⟨_, rfl⟩ (.nil))⟩⟩, ⟨_, PySem.W.mg_of X G v_EMPTY, fun H => .inr ⟨_, _, _, w_EMPTY, rfl, rfl, by show 2 ≤ sizeLine; decide, .cons rfl (.cons ⟨_, rfl⟩ (.nil))⟩⟩, ⟨_, PySem.W.mg_of X G v_FIRST, fun H => .inr ⟨_, _, _, w_FIRST, rfl, rfl, by show 2 ≤ sizeLine; decide, .cons ⟨_, rfl⟩ (.cons ⟨_, rfl⟩ (.nil))⟩⟩, ⟨_, PySem.W.mg_of X G v_GROUPS, fun H => .inr ⟨_, _, _, w_GROUPS, rfl, rfl, by show 3 ≤ sizeLine; decide, .cons ⟨_, rfl⟩ (.cons ⟨_, rfl⟩ (.cons ⟨_, rfl⟩ (.nil)))⟩⟩, ⟨_, PySem.W.mg_of X G v_KIND, fun H => .inr ⟨_, _, _, w_KIND, rfl, rfl, by show 2 ≤ sizeLine; decide, .cons ⟨_, rfl⟩ (.cons ⟨_, rfl⟩ (.nil))⟩⟩, ⟨_, PySem.W.mg_of X G v_LEAST_COUNT⟩, ⟨_, PySem.W.mg_of X G v_LEAST_OFFSET⟩, ⟨_, PySem.W.mg_of X G v_NOT_SEALED⟩, ⟨_, PySem.W.mg_of X G v_POKED⟩, ⟨_, PySem.W.mg_of X G v_RIGHTS⟩, ⟨_, PySem.W.mg_of X G v_RIGHTS_BITS, fun H => .inr ⟨_, _, _, w_RIGHTS_BITS, rfl, rfl, by show 2 ≤ sizeLine; decide, .cons ⟨_, rfl⟩ (.cons ⟨_, rfl⟩ (.nil))⟩⟩, ⟨_, PySem.W.mg_of X G v_STEP, fun H => .inr ⟨_, _, _, w_STEP, rfl, rfl, by show 2 ≤ sizeLine; decide, .cons ⟨_, rfl⟩ (.cons ⟨_, rfl⟩ (.nil))⟩⟩, ⟨_, PySem.W.mg_of X G v_TOP_OFFSET⟩, ⟨_, PySem.W.mg_of X G v_TOP_STEP⟩, ⟨_, PySem.W.mg_of X G v_WORTHS⟩, ⟨C_Cells, PySem.W.mg_of X G ac_Cells, ac_Cells⟩, ⟨C_Fault, PySem.W.mg_of X G ac_Fault, ac_Fault⟩, ⟨C_NoAddress, PySem.W.mg_of X G ac_NoAddress, ac_NoAddress⟩, ⟨C_NoBounds, PySem.W.mg_of X G ac_NoBounds, ac_NoBounds⟩, ⟨C_NoOffset, PySem.W.mg_of X G ac_NoOffset, ac_NoOffset⟩, ⟨C_NoWord, PySem.W.mg_of X G ac_NoWord, ac_NoWord⟩, ⟨C_ReachError, PySem.W.mg_of X G ac_ReachError, ac_ReachError⟩, fun C D h1 h2 => by cases ns_one ac_NoAddress h1; cases ns_one ac_ReachError h2; exact exm_own xb_NoAddress_ReachError xh_NoAddress_ReachError xt_NoAddress_ReachError xs_NoAddress_ReachError, fun C D h1 h2 => by cases ns_one ac_NoWord h1; cases ns_one ac_ReachError h2; exact exm_own xb_NoWord_ReachError xh_NoWord_ReachError xt_NoWord_ReachError xs_NoWord_ReachError, fun C D h1 h2 => by cases ns_one ac_NoOffset h1; cases ns_one ac_ReachError h2; exact exm_own xb_NoOffset_ReachError xh_NoOffset_ReachError xt_NoOffset_ReachError xs_NoOffset_ReachError, fun C D h1 h2 => by cases ns_one ac_NoBounds h1; cases ns_one ac_ReachError h2; exact exm_own xb_NoBounds_ReachError xh_NoBounds_ReachError xt_NoBounds_ReachError xs_NoBounds_ReachError, fun C h1 => by cases ns_one ac_NoAddress h1; exact ⟨ecg_NoAddress, eck_NoAddress, ecs_NoAddress, ecd_NoAddress, eca_NoAddress, ecn_NoAddress, ect_NoAddress, ecm_NoAddress⟩, fun C h1 => by cases ns_one ac_NoWord h1; exact ⟨ecg_NoWord, eck_NoWord, ecs_NoWord, ecd_NoWord, eca_NoWord, ecn_NoWord, ect_NoWord, ecm_NoWord⟩, fun C h1 => by cases ns_one ac_NoOffset h1; exact ⟨ecg_NoOffset, eck_NoOffset, ecs_NoOffset, ecd_NoOffset, eca_NoOffset, ecn_NoOffset, ect_NoOffset, ecm_NoOffset⟩, fun C h1 => by cases ns_one ac_NoBounds h1; exact ⟨ecg_NoBounds, eck_NoBounds, ecs_NoBounds, ecd_NoBounds, eca_NoBounds, ecn_NoBounds, ect_NoBounds, ecm_NoBounds⟩, fun C D h1 h2 => by cases ns_one ac_NoAddress h1; cases ns_one ac_NoAddress h2; exact kt_NoAddress_NoAddress, fun C D h1 h2 => by cases ns_one ac_NoAddress h1; cases ns_one ac_NoWord h2; exact kt_NoAddress_NoWord, fun C D h1 h2 => by cases ns_one ac_NoAddress h1; cases ns_one ac_NoOffset h2; exact kt_NoAddress_NoOffset, fun C D h1 h2 => by cases ns_one ac_NoAddress h1; cases ns_one ac_NoBounds h2; exact kt_NoAddress_NoBounds, fun C D h1 h2 => by cases ns_one ac_NoAddress h1; cases ns_one ac_Fault h2; exact kt_NoAddress_Fault, fun C D h1 h2 => by cases ns_one ac_NoWord h1; cases ns_one ac_NoAddress h2; exact kt_NoWord_NoAddress, fun C D h1 h2 => by cases ns_one ac_NoWord h1; cases ns_one ac_NoWord h2; exact kt_NoWord_NoWord, fun C D h1 h2 => by cases ns_one ac_NoWord h1; cases ns_one ac_NoOffset h2; exact kt_NoWord_NoOffset, fun C D h1 h2 => by cases ns_one ac_NoWord h1; cases ns_one ac_NoBounds h2; exact kt_NoWord_NoBounds, fun C D h1 h2 => by cases ns_one ac_NoWord h1; cases ns_one ac_Fault h2; exact kt_NoWord_Fault, fun C D h1 h2 => by cases ns_one ac_NoOffset h1; cases ns_one ac_NoAddress h2; exact kt_NoOffset_NoAddress, fun C D h1 h2 => by cases ns_one ac_NoOffset h1; cases ns_one ac_NoWord h2; exact kt_NoOffset_NoWord, fun C D h1 h2 => by cases ns_one ac_NoOffset h1; cases ns_one ac_NoOffset h2; exact kt_NoOffset_NoOffset, fun C D h1 h2 => by cases ns_one ac_NoOffset h1; cases ns_one ac_NoBounds h2; exact kt_NoOffset_NoBounds, fun C D h1 h2 => by cases ns_one ac_NoOffset h1; cases ns_one ac_Fault h2; exact kt_NoOffset_Fault, fun C D h1 h2 => by cases ns_one ac_NoBounds h1; cases ns_one ac_NoAddress h2; exact kt_NoBounds_NoAddress, fun C D h1 h2 => by cases ns_one ac_NoBounds h1; cases ns_one ac_NoWord h2; exact kt_NoBounds_NoWord, fun C D h1 h2 => by cases ns_one ac_NoBounds h1; cases ns_one ac_NoOffset h2; exact kt_NoBounds_NoOffset, fun C D h1 h2 => by cases ns_one ac_NoBounds h1; cases ns_one ac_NoBounds h2; exact kt_NoBounds_NoBounds, fun C D h1 h2 => by cases ns_one ac_NoBounds h1; cases ns_one ac_Fault h2; exact kt_NoBounds_Fault, fun C h1 => by cases ns_one ac_Cells h1; exact ⟨cpg_Cells, chd_Cells, cpo_Cells, csa_Cells⟩, fun C h1 => by cases ns_one ac_Cells h1; exact nf_Cells__words, fun C h1 => by cases ns_one ac_Cells h1; exact ⟨cta_Cells, ctb_Cells, ctc_Cells, cmr_Cells, ckt_Cells, cks_Cells⟩⟩
  intro base H s a ns kb nb e0 hS hlen
  have TO_Fault : OexC K C_Fault := ⟨⟨_, _, _, _, _, _, _, _, _, _, _, _, _, _, _, xl_Fault, by rfl⟩, sa_Fault, eb_Fault, ty_Fault, kc_Fault⟩
  have FI_Fault := fun_mk (st := si_Fault) li_Fault ci_Fault ki_Fault
  have R_Fault : ErrK l.prog w K mg base "Fault" "word" := ⟨C_Fault, fi_Fault, _, ac_Fault, PySem.W.mg_of X G ac_Fault, TO_Fault, in_Fault, ti_Fault, oki_Fault FI_Fault TO_Fault no_Fault, FI_Fault.binds fun _ _ _ _ _ _ us hl => match us, hl with | [_, _], _ => rfl⟩
  have TO_NoAddress : OexC K C_NoAddress := ⟨⟨_, _, _, _, _, _, _, _, _, _, _, _, _, _, _, xl_NoAddress, by rfl⟩, sa_NoAddress, eb_NoAddress, ty_NoAddress, kc_NoAddress⟩
  have FI_NoAddress := fun_mk (st := si_NoAddress) li_NoAddress ci_NoAddress ki_NoAddress
  have R_NoAddress : ErrK l.prog w K mg base "NoAddress" "text" := ⟨C_NoAddress, fi_NoAddress, _, ac_NoAddress, PySem.W.mg_of X G ac_NoAddress, TO_NoAddress, in_NoAddress, ti_NoAddress, oki_NoAddress FI_NoAddress TO_NoAddress no_NoAddress, FI_NoAddress.binds fun _ _ _ _ _ _ us hl => match us, hl with | [_, _], _ => rfl⟩
  have TO_NoBounds : OexC K C_NoBounds := ⟨⟨_, _, _, _, _, _, _, _, _, _, _, _, _, _, _, xl_NoBounds, by rfl⟩, sa_NoBounds, eb_NoBounds, ty_NoBounds, kc_NoBounds⟩
  have FI_NoBounds := fun_mk (st := si_NoBounds) li_NoBounds ci_NoBounds ki_NoBounds
  have R_NoBounds : ErrK l.prog w K mg base "NoBounds" "text" := ⟨C_NoBounds, fi_NoBounds, _, ac_NoBounds, PySem.W.mg_of X G ac_NoBounds, TO_NoBounds, in_NoBounds, ti_NoBounds, oki_NoBounds FI_NoBounds TO_NoBounds no_NoBounds, FI_NoBounds.binds fun _ _ _ _ _ _ us hl => match us, hl with | [_, _], _ => rfl⟩
  have TO_NoOffset : OexC K C_NoOffset := ⟨⟨_, _, _, _, _, _, _, _, _, _, _, _, _, _, _, xl_NoOffset, by rfl⟩, sa_NoOffset, eb_NoOffset, ty_NoOffset, kc_NoOffset⟩
  have FI_NoOffset := fun_mk (st := si_NoOffset) li_NoOffset ci_NoOffset ki_NoOffset
  have R_NoOffset : ErrK l.prog w K mg base "NoOffset" "text" := ⟨C_NoOffset, fi_NoOffset, _, ac_NoOffset, PySem.W.mg_of X G ac_NoOffset, TO_NoOffset, in_NoOffset, ti_NoOffset, oki_NoOffset FI_NoOffset TO_NoOffset no_NoOffset, FI_NoOffset.binds fun _ _ _ _ _ _ us hl => match us, hl with | [_, _], _ => rfl⟩
  have TO_NoWord : OexC K C_NoWord := ⟨⟨_, _, _, _, _, _, _, _, _, _, _, _, _, _, _, xl_NoWord, by rfl⟩, sa_NoWord, eb_NoWord, ty_NoWord, kc_NoWord⟩
  have FI_NoWord := fun_mk (st := si_NoWord) li_NoWord ci_NoWord ki_NoWord
  have R_NoWord : ErrK l.prog w K mg base "NoWord" "text" := ⟨C_NoWord, fi_NoWord, _, ac_NoWord, PySem.W.mg_of X G ac_NoWord, TO_NoWord, in_NoWord, ti_NoWord, oki_NoWord FI_NoWord TO_NoWord no_NoWord, FI_NoWord.binds fun _ _ _ _ _ _ us hl => match us, hl with | [_, _], _ => rfl⟩
  have C_is_whole : Cal l.prog w K mg base "is_whole" 1 ["thing", "least", "most"] (sp_is_whole K) := ⟨_, _, ok_is_whole F0 T, PySem.W.mg_of X G a0, F0.kp, F0.binds fun _ _ _ _ _ _ us hl => match us, hl with | [_, _, _], _ => rfl⟩
  have C_are_bounds : Cal l.prog w K mg base "are_bounds" 2 ["low", "high"] (sp_are_bounds K) := ⟨_, _, ok_are_bounds F1 T C_is_whole, PySem.W.mg_of X G a1, F1.kp, F1.binds fun _ _ _ _ _ _ us hl => match us, hl with | [_, _], _ => rfl⟩
  have C_look_at_bounds : Cal l.prog w K mg base "look_at_bounds" 3 ["low", "high"] (sp_look_at_bounds K) := ⟨_, _, ok_look_at_bounds F2 T C_are_bounds, PySem.W.mg_of X G a2, F2.kp, F2.binds fun _ _ _ _ _ _ us hl => match us, hl with | [_, _], _ => rfl⟩
  have C__has_some : Cal l.prog w K mg base "_has_some" 1 ["rights", "group"] (sp__has_some K) := ⟨_, _, ok__has_some F3 T, PySem.W.mg_of X G a3, F3.kp, F3.binds fun _ _ _ _ _ _ us hl => match us, hl with | [_, _], _ => rfl⟩
  have C__lead_one_way : Cal l.prog w K mg base "_lead_one_way" 2 ["rights"] (sp__lead_one_way K) := ⟨_, _, ok__lead_one_way F4 T C__has_some, PySem.W.mg_of X G a4, F4.kp, F4.binds fun _ _ _ _ _ _ us hl => match us, hl with | [_], _ => rfl⟩
  have C_field : Cal l.prog w K mg base "field" 1 ["bits", "place"] (sp_field K) := ⟨_, _, ok_field F5 T, PySem.W.mg_of X G a5, F5.kp, F5.binds fun _ _ _ _ _ _ us hl => match us, hl with | [_, _], _ => rfl⟩
  have C_rights_in : Cal l.prog w K mg base "rights_in" 2 ["bits"] (sp_rights_in K) := ⟨_, _, ok_rights_in F6 T C_field, PySem.W.mg_of X G a6, F6.kp, F6.binds fun _ _ _ _ _ _ us hl => match us, hl with | [_], _ => rfl⟩
  have C__tell : Cal l.prog w K mg base "_tell" 2 ["bits"] (sp__tell K) := ⟨_, _, ok__tell F7 T C_field, PySem.W.mg_of X G a7, F7.kp, F7.binds fun _ _ _ _ _ _ us hl => match us, hl with | [_], _ => rfl⟩
  have C__may_be_marked : Cal l.prog w K mg base "_may_be_marked" 3 ["bits"] (sp__may_be_marked K) := ⟨_, _, ok__may_be_marked F8 T C__lead_one_way C_rights_in C__tell, PySem.W.mg_of X G a8, F8.kp, F8.binds fun _ _ _ _ _ _ us hl => match us, hl with | [_], _ => rfl⟩
  have C_is_word : Cal l.prog w K mg base "is_word" 2 ["thing"] (sp_is_word K) := ⟨_, _, ok_is_word F9 T C_is_whole, PySem.W.mg_of X G a9, F9.kp, F9.binds fun _ _ _ _ _ _ us hl => match us, hl with | [_], _ => rfl⟩
  have C_is_lawful : Cal l.prog w K mg base "is_lawful" 4 ["thing"] (sp_is_lawful K) := ⟨_, _, ok_is_lawful F10 T C__may_be_marked C_is_word, PySem.W.mg_of X G a10, F10.kp, F10.binds fun _ _ _ _ _ _ us hl => match us, hl with | [_], _ => rfl⟩
  have C_bounds_in : Cal l.prog w K mg base "bounds_in" 2 ["bits"] (sp_bounds_in K) := ⟨_, _, ok_bounds_in F11 T C_field, PySem.W.mg_of X G a11, F11.kp, F11.binds fun _ _ _ _ _ _ us hl => match us, hl with | [_], _ => rfl⟩
  have C_fields_of : Cal l.prog w K mg base "fields_of" 3 ["word"] (sp_fields_of K) := ⟨_, _, ok_fields_of F12 T C_field C_rights_in C__tell C_bounds_in, PySem.W.mg_of X G a12, F12.kp, F12.binds fun _ _ _ _ _ _ us hl => match us, hl with | [_], _ => rfl⟩
  have C_is_sealed : Cal l.prog w K mg base "is_sealed" 2 ["bits"] (sp_is_sealed K) := ⟨_, _, ok_is_sealed F13 T C_field, PySem.W.mg_of X G a13, F13.kp, F13.binds fun _ _ _ _ _ _ us hl => match us, hl with | [_], _ => rfl⟩
  have C_without_mark : Cal l.prog w K mg base "without_mark" 1 ["word"] (sp_without_mark K) := ⟨_, _, ok_without_mark F14 T, PySem.W.mg_of X G a14, F14.kp, F14.binds fun _ _ _ _ _ _ us hl => match us, hl with | [_], _ => rfl⟩
  have C__look_at_address : Cal l.prog w K mg base "_look_at_address" 2 ["thing"] (sp__look_at_address K) := ⟨_, _, ok__look_at_address F15 T C_is_whole, PySem.W.mg_of X G a15, F15.kp, F15.binds fun _ _ _ _ _ _ us hl => match us, hl with | [_], _ => rfl⟩
  have C__reached : CalX l.prog w K mg base "_reached" 4 ["word", "offset", "right"] (sp__reached K) := ⟨_, _, ok__reached F16 T C_is_whole C_fields_of C_is_sealed R_Fault R_NoOffset, PySem.W.mg_of X G a16, F16.kp, F16.binds fun _ _ _ _ _ _ us hl => match us, hl with | [_, _, _], _ => rfl⟩
  have C__look_at_stored : CalX l.prog w K mg base "_look_at_stored" 3 ["rights", "stored_rights"] (sp__look_at_stored K) := ⟨_, _, ok__look_at_stored F17 T R_Fault, PySem.W.mg_of X G a17, F17.kp, F17.binds fun _ _ _ _ _ _ us hl => match us, hl with | [_, _], _ => rfl⟩
  have C_Cells___init__ : MkN l.prog w K mg base "Cells" 1 (sp_Cells___init__ K) := ⟨C_Cells, f18, _, ac_Cells, PySem.W.mg_of X G ac_Cells, ⟨cmk_Cells, m18, n18, ckc_Cells⟩, ok_Cells___init__ F18 T, F18.binds fun _ _ _ _ _ _ us hl => match us, hl with | [_], _ => rfl⟩
  have C_Cells_store : MthN (L2.CX l.prog w) l.prog w K mg base "Cells" "store" 5 ["self", "word", "offset", "what"] [] (sp_Cells_store K) := ⟨C_Cells, f19, _, [], ac_Cells, ⟨cpg_Cells, chd_Cells, cpo_Cells, csa_Cells⟩, ⟨m19, n19, k19⟩, ok_Cells_store F19 T C_rights_in C__reached C__look_at_stored, .nil, F19.binds fun _ _ _ _ _ _ us hl => match us, hl with | [_, _, _, _], _ => rfl⟩
  have C_Cells_poke : MthN (L2.CX l.prog w) l.prog w K mg base "Cells" "poke" 5 ["self", "word", "offset", "number"] [] (sp_Cells_poke K) := ⟨C_Cells, f20, _, [], ac_Cells, ⟨cpg_Cells, chd_Cells, cpo_Cells, csa_Cells⟩, ⟨m20, n20, k20⟩, ok_Cells_poke F20 T C__reached, .nil, F20.binds fun _ _ _ _ _ _ us hl => match us, hl with | [_, _, _, _], _ => rfl⟩
  have C_Cells_lay : MthN CX0 l.prog w K mg base "Cells" "lay" 5 ["self", "address", "word"] [] (sp_Cells_lay K) := ⟨C_Cells, f21, _, [], ac_Cells, ⟨cpg_Cells, chd_Cells, cpo_Cells, csa_Cells⟩, ⟨m21, n21, k21⟩, ok_Cells_lay F21 T C_is_lawful C__look_at_address, .nil, F21.binds fun _ _ _ _ _ _ us hl => match us, hl with | [_, _, _], _ => rfl⟩
  have C_Cells_cell : MthN CX0 l.prog w K mg base "Cells" "cell" 3 ["self", "address"] [] (sp_Cells_cell K) := ⟨C_Cells, f22, _, [], ac_Cells, ⟨cpg_Cells, chd_Cells, cpo_Cells, csa_Cells⟩, ⟨m22, n22, k22⟩, ok_Cells_cell F22 T C__look_at_address, .nil, F22.binds fun _ _ _ _ _ _ us hl => match us, hl with | [_, _], _ => rfl⟩
  obtain ⟨ds23, hd23, hb23⟩ := F23.binds1 1 0 (ps := ["self", "low", "high"]) (by simp) rfl (fun T kV doc pm an cdv ct us its h1 h2 => match us, h1, its, h2 with | [_], _, [_, _], _ => ⟨_, rfl, rfl⟩)
  have C_Cells_marked : MthN CX0 l.prog w K mg base "Cells" "marked" 4 ["self", "low", "high"] [.int 0, .int 4096] (sp_Cells_marked K) := ⟨C_Cells, f23, _, ds23, ac_Cells, ⟨cpg_Cells, chd_Cells, cpo_Cells, csa_Cells⟩, ⟨m23, n23, k23⟩, ok_Cells_marked F23 T C_look_at_bounds, hd23, hb23⟩
  have C__law_take : Cal l.prog w K mg base "_law_take" 1 ["_law_pool_here", "_law_many"] (sp__law_take K) := ⟨_, _, ok__law_take F24 T, PySem.W.mg_of X G a24, F24.kp, F24.binds fun _ _ _ _ _ _ us hl => match us, hl with | [_, _], _ => rfl⟩
  have C__law_pool : Cal l.prog w K mg base "_law_pool" 1 ["_law_script", "_law_k"] (sp__law_pool K) := ⟨_, _, ok__law_pool F25 T, PySem.W.mg_of X G a25, F25.kp, F25.binds fun _ _ _ _ _ _ us hl => match us, hl with | [_, _], _ => rfl⟩
  have C__law_least : Cal l.prog w K mg base "_law_least" 1 ["_law_low", "_law_high"] (sp__law_least K) := ⟨_, _, ok__law_least F26 T, PySem.W.mg_of X G a26, F26.kp, F26.binds fun _ _ _ _ _ _ us hl => match us, hl with | [_, _], _ => rfl⟩
  have C__law_made : Cal l.prog w K mg base "_law_made" 2 ["_law_low", "_law_high", "_law_at", "_law_rights_here", "_law_kind"] (sp__law_made K) := ⟨_, _, ok__law_made F27 T C__law_least, PySem.W.mg_of X G a27, F27.kp, F27.binds fun _ _ _ _ _ _ us hl => match us, hl with | [_, _, _, _, _], _ => rfl⟩
  have C__law_bounds : Cal l.prog w K mg base "_law_bounds" 2 ["_law_pool_here"] (sp__law_bounds K) := ⟨_, _, ok__law_bounds F28 T C__law_take C__law_least, PySem.W.mg_of X G a28, F28.kp, F28.binds fun _ _ _ _ _ _ us hl => match us, hl with | [_], _ => rfl⟩
  have C__law_rights : Cal l.prog w K mg base "_law_rights" 2 ["_law_pool_here"] (sp__law_rights K) := ⟨_, _, ok__law_rights F29 T C__law_take, PySem.W.mg_of X G a29, F29.kp, F29.binds fun _ _ _ _ _ _ us hl => match us, hl with | [_], _ => rfl⟩
  have C__law_word : Cal l.prog w K mg base "_law_word" 3 ["_law_pool_here"] (sp__law_word K) := ⟨_, _, ok__law_word F30 T C__law_take C__law_made C__law_bounds C__law_rights, PySem.W.mg_of X G a30, F30.kp, F30.binds fun _ _ _ _ _ _ us hl => match us, hl with | [_], _ => rfl⟩
  have C_Cells_clear : MthN CX0 l.prog w K mg base "Cells" "clear" 4 ["self", "low", "high"] [] (sp_Cells_clear K) := ⟨C_Cells, f31, _, [], ac_Cells, ⟨cpg_Cells, chd_Cells, cpo_Cells, csa_Cells⟩, ⟨m31, n31, k31⟩, ok_Cells_clear F31 T C_look_at_bounds, .nil, F31.binds fun _ _ _ _ _ _ us hl => match us, hl with | [_, _, _], _ => rfl⟩
  have C_Cells_twin : MthN CX0 l.prog w K mg base "Cells" "twin" 3 ["self"] [] (sp_Cells_twin K) := ⟨C_Cells, f32, _, [], ac_Cells, ⟨cpg_Cells, chd_Cells, cpo_Cells, csa_Cells⟩, ⟨m32, n32, k32⟩, ok_Cells_twin F32 T C_Cells___init__, .nil, F32.binds fun _ _ _ _ _ _ us hl => match us, hl with | [_], _ => rfl⟩
  have C_Cells___eq__ : EqN l.prog w K mg base "Cells" 1 (sp_Cells___eq__ K) := ⟨C_Cells, f33, _, ac_Cells, m33, n33, cst_Cells, cne_Cells, cmr_Cells, ok_Cells___eq__ F33 T, F33.binds fun _ _ _ _ _ _ us hl => match us, hl with | [_, _], _ => rfl⟩
  obtain ⟨ds34, hd34, hb34⟩ := F34.binds1 3 2 (ps := ["self", "low", "high"]) (by simp) rfl (fun T kV doc pm an cdv ct us its h1 h2 => match us, h1, its, h2 with | [_, _, _], _, [_, _], _ => ⟨_, rfl, rfl⟩)
  have C_Cells_marked__v2 : MthN CX0 l.prog w K mg base "Cells" "marked" 4 ["self", "low", "high"] [] (sp_Cells_marked__v2 K) := ⟨C_Cells, f34, _, ds34, ac_Cells, ⟨cpg_Cells, chd_Cells, cpo_Cells, csa_Cells⟩, ⟨m34, n34, k34⟩, ok_Cells_marked__v2 F34 T C_look_at_bounds, hd34, hb34⟩
  have C__look_at_address__v1 : CalX l.prog w K mg base "_look_at_address" 3 ["thing"] (sp__look_at_address__v1 K) := ⟨_, _, ok__look_at_address__v1 F35 T C_is_whole R_NoAddress, PySem.W.mg_of X G a35, F35.kp, F35.binds fun _ _ _ _ _ _ us hl => match us, hl with | [_], _ => rfl⟩
  have C__reached__v1 : CalX l.prog w K mg base "_reached" 4 ["word", "offset", "right"] (sp__reached__v1 K) := ⟨_, _, ok__reached__v1 F36 T C_is_whole C_fields_of C_is_sealed R_Fault R_NoOffset, PySem.W.mg_of X G a36, F36.kp, F36.binds fun _ _ _ _ _ _ us hl => match us, hl with | [_, _, _], _ => rfl⟩
  have C_look_at_bounds__v1 : CalX l.prog w K mg base "look_at_bounds" 3 ["low", "high"] (sp_look_at_bounds__v1 K) := ⟨_, _, ok_look_at_bounds__v1 F37 T C_are_bounds R_NoBounds, PySem.W.mg_of X G a37, F37.kp, F37.binds fun _ _ _ _ _ _ us hl => match us, hl with | [_, _], _ => rfl⟩
  have C_Cells_cell__v1 : MthN (L2.CX l.prog w) l.prog w K mg base "Cells" "cell" 4 ["self", "address"] [] (sp_Cells_cell__v1 K) := ⟨C_Cells, f38, _, [], ac_Cells, ⟨cpg_Cells, chd_Cells, cpo_Cells, csa_Cells⟩, ⟨m38, n38, k38⟩, ok_Cells_cell__v1 F38 T C__look_at_address__v1, .nil, F38.binds fun _ _ _ _ _ _ us hl => match us, hl with | [_, _], _ => rfl⟩
  have C_Cells_lay__v1 : MthN (L2.CX l.prog w) l.prog w K mg base "Cells" "lay" 5 ["self", "address", "word"] [] (sp_Cells_lay__v1 K) := ⟨C_Cells, f39, _, [], ac_Cells, ⟨cpg_Cells, chd_Cells, cpo_Cells, csa_Cells⟩, ⟨m39, n39, k39⟩, ok_Cells_lay__v1 F39 T C_is_lawful C__look_at_address__v1 R_NoWord, .nil, F39.binds fun _ _ _ _ _ _ us hl => match us, hl with | [_, _, _], _ => rfl⟩
  have C_Cells_clear__v1 : MthN (L2.CX l.prog w) l.prog w K mg base "Cells" "clear" 4 ["self", "low", "high"] [] (sp_Cells_clear__v1 K) := ⟨C_Cells, f40, _, [], ac_Cells, ⟨cpg_Cells, chd_Cells, cpo_Cells, csa_Cells⟩, ⟨m40, n40, k40⟩, ok_Cells_clear__v1 F40 T C_look_at_bounds__v1, .nil, F40.binds fun _ _ _ _ _ _ us hl => match us, hl with | [_, _, _], _ => rfl⟩
  obtain ⟨ds41, hd41, hb41⟩ := F41.binds1 3 2 (ps := ["self", "low", "high"]) (by simp) rfl (fun T kV doc pm an cdv ct us its h1 h2 => match us, h1, its, h2 with | [_, _, _], _, [_, _], _ => ⟨_, rfl, rfl⟩)
  have C_Cells_marked__v1 : MthN (L2.CX l.prog w) l.prog w K mg base "Cells" "marked" 4 ["self", "low", "high"] [] (sp_Cells_marked__v1 K) := ⟨C_Cells, f41, _, ds41, ac_Cells, ⟨cpg_Cells, chd_Cells, cpo_Cells, csa_Cells⟩, ⟨m41, n41, k41⟩, ok_Cells_marked__v1 F41 T C_look_at_bounds__v1, hd41, hb41⟩
  have C_Cells_load__v1 : MthN (L2.CX l.prog w) l.prog w K mg base "Cells" "load" 5 ["self", "word", "offset"] [] (sp_Cells_load__v1 K) := ⟨C_Cells, f42, _, [], ac_Cells, ⟨cpg_Cells, chd_Cells, cpo_Cells, csa_Cells⟩, ⟨m42, n42, k42⟩, ok_Cells_load__v1 F42 T C_rights_in C_without_mark C__reached__v1, .nil, F42.binds fun _ _ _ _ _ _ us hl => match us, hl with | [_, _, _], _ => rfl⟩
  have C_Cells_store__v1 : MthN (L2.CX l.prog w) l.prog w K mg base "Cells" "store" 5 ["self", "word", "offset", "what"] [] (sp_Cells_store__v1 K) := ⟨C_Cells, f43, _, [], ac_Cells, ⟨cpg_Cells, chd_Cells, cpo_Cells, csa_Cells⟩, ⟨m43, n43, k43⟩, ok_Cells_store__v1 F43 T C_rights_in C__look_at_stored C__reached__v1, .nil, F43.binds fun _ _ _ _ _ _ us hl => match us, hl with | [_, _, _, _], _ => rfl⟩
  have C_Cells_poke__v1 : MthN (L2.CX l.prog w) l.prog w K mg base "Cells" "poke" 5 ["self", "word", "offset", "number"] [] (sp_Cells_poke__v1 K) := ⟨C_Cells, f44, _, [], ac_Cells, ⟨cpg_Cells, chd_Cells, cpo_Cells, csa_Cells⟩, ⟨m44, n44, k44⟩, ok_Cells_poke__v1 F44 T C__reached__v1, .nil, F44.binds fun _ _ _ _ _ _ us hl => match us, hl with | [_, _, _, _], _ => rfl⟩
  have C__law_said : Cal l.prog w K mg base "_law_said" 6 ["_law_cells", "_law_door", "_law_thing", "_law_word_here"] (sp__law_said K) := ⟨_, _, ok__law_said F45 T C_Cells_cell__v1 C_Cells_lay__v1 C_Cells_clear__v1 C_Cells_marked__v1 C_Cells_load__v1 C_Cells_store__v1 C_Cells_poke__v1, PySem.W.mg_of X G a45, F45.kp, F45.binds fun _ _ _ _ _ _ us hl => match us, hl with | [_, _, _, _], _ => rfl⟩
  have C__law_laid : Cal l.prog w K mg base "_law_laid" 6 ["_law_pool_here", "_law_cells", "_law_book"] (sp__law_laid K) := ⟨_, _, ok__law_laid F46 T C_Cells_lay C__law_take C__law_word, PySem.W.mg_of X G a46, F46.kp, F46.binds fun _ _ _ _ _ _ us hl => match us, hl with | [_, _, _], _ => rfl⟩
  have C__law_same : CalG l.prog w K mg base "_law_same" 5 ["_law_cells", "_law_book"] (sp__law_same K) := ⟨_, _, ok__law_same F47 T C_Cells_cell C_Cells_marked, PySem.W.mg_of X G a47, F47.kp, F47.binds fun _ _ _ _ _ _ us hl => match us, hl with | [_, _], _ => rfl⟩
  have C__law_emptied_so : Cal l.prog w K mg base "_law_emptied_so" 6 ["_law_word_here"] (sp__law_emptied_so K) := ⟨_, _, ok__law_emptied_so F48 T C_Cells___init__ C_Cells_store C_Cells_poke C_Cells_lay C_Cells_marked C__law_made C_Cells_twin C_Cells___eq__, PySem.W.mg_of X G a48, F48.kp, F48.binds fun _ _ _ _ _ _ us hl => match us, hl with | [_], _ => rfl⟩
  have C__law_odd_so : CalG l.prog w K mg base "_law_odd_so" 7 ["_law_cells", "_law_word_here"] (sp__law_odd_so K) := ⟨_, _, ok__law_odd_so F49 T C_Cells_cell C__law_said, PySem.W.mg_of X G a49, F49.kp, F49.binds fun _ _ _ _ _ _ us hl => match us, hl with | [_, _], _ => rfl⟩
  exact ok_law l50 c50 T C_Cells___init__ C_Cells_store C_Cells_poke C_Cells_lay C_Cells_cell C_Cells_marked C__law_take C__law_pool C__law_made C__law_word C_Cells_clear C_Cells_twin C_Cells___eq__ C_Cells_marked__v2 C__law_laid C__law_same C__law_emptied_so C__law_odd_so e0 hS hlen
end My
open PySem PySem.W PyProof.Rows
set_option maxRecDepth 100000 in
set_option maxHeartbeats 0 in
theorem PySem.Challenge.cw_sealedreach_k20_cells_laid_and_cleared_holds : PySem.Challenge.rw_sealedreach_k20_cells_laid_and_cleared.Holds := by
  w_on; o_law; k_head; (case hw => w_witness2)
  k_fill
  refine My.walk_scr (l := PySem.Challenge.rw_sealedreach_k20_cells_laid_and_cleared) (n := 63) rfl (by decide) rfl (fun w h Y => PySem.W.kIn_of Y) ?F
  case F =>
    intro w mg fa h KX G hmg
    refine' My.all_mk KX G hmg ?ac_Cells ?cpg_Cells ?chd_Cells ?cpo_Cells ?csa_Cells ?cmk_Cells ?ckc_Cells ?cst_Cells ?cne_Cells ?cmr_Cells ?cta_Cells ?ctb_Cells ?ctc_Cells ?ckt_Cells ?cks_Cells ?nf_Cells__words ?a0 ?l0 ?c0 ?k0 ?a1 ?l1 ?c1 ?k1 ?a2 ?l2 ?c2 ?k2 ?a3 ?l3 ?c3 ?k3 ?a4 ?l4 ?c4 ?k4 ?a5 ?l5 ?c5 ?k5 ?a6 ?l6 ?c6 ?k6 ?a7 ?l7 ?c7 ?k7 ?a8 ?l8 ?c8 ?k8 ?a9 ?l9 ?c9 ?k9 ?a10 ?l10 ?c10 ?k10 ?a11 ?l11 ?c11 ?k11 ?a12 ?l12 ?c12 ?k12 ?a13 ?l13 ?c13 ?k13 ?a14 ?l14 ?c14 ?k14 ?a15 ?l15 ?c15 ?k15 ?a16 ?l16 ?c16 ?k16 ?a17 ?l17 ?c17 ?k17 ?m18 ?n18 ?l18 ?c18 ?k18 ?m19 ?n19 ?l19 ?c19 ?k19 ?m20 ?n20 ?l20 ?c20 ?k20 ?m21 ?n21 ?l21 ?c21 ?k21 ?m22 ?n22 ?l22 ?c22 ?k22 ?m23 ?n23 ?l23 ?c23 ?k23 ?dl23 ?a24 ?l24 ?c24 ?k24 ?a25 ?l25 ?c25 ?k25 ?a26 ?l26 ?c26 ?k26 ?a27 ?l27 ?c27 ?k27 ?a28 ?l28 ?c28 ?k28 ?a29 ?l29 ?c29 ?k29 ?a30 ?l30 ?c30 ?k30 ?m31 ?n31 ?l31 ?c31 ?k31 ?m32 ?n32 ?l32 ?c32 ?k32 ?m33 ?n33 ?l33 ?c33 ?k33 ?m34 ?n34 ?l34 ?c34 ?k34 ?dl34 ?a35 ?l35 ?c35 ?k35 ?a36 ?l36 ?c36 ?k36 ?a37 ?l37 ?c37 ?k37 ?m38 ?n38 ?l38 ?c38 ?k38 ?m39 ?n39 ?l39 ?c39 ?k39 ?m40 ?n40 ?l40 ?c40 ?k40 ?m41 ?n41 ?l41 ?c41 ?k41 ?dl41 ?m42 ?n42 ?l42 ?c42 ?k42 ?m43 ?n43 ?l43 ?c43 ?k43 ?m44 ?n44 ?l44 ?c44 ?k44 ?a45 ?l45 ?c45 ?k45 ?a46 ?l46 ?c46 ?k46 ?a47 ?l47 ?c47 ?k47 ?a48 ?l48 ?c48 ?k48 ?a49 ?l49 ?c49 ?k49 ?a50 ?l50 ?c50 ?k50 ?z_abs ?z_any ?z_bool ?z_dict ?z_enumerate ?z_int ?z_isinstance ?z_len ?z_list ?z_max ?z_min ?z_range ?z_repr ?z_sorted ?z_sum ?z_tuple ?v_AT ?w_AT ?v_CELLS ?v_COUNT_LESS_ONE ?w_COUNT_LESS_ONE ?v_EMPTY ?w_EMPTY ?v_FIRST ?w_FIRST ?v_GROUPS ?w_GROUPS ?v_KIND ?w_KIND ?v_LEAST_COUNT ?v_LEAST_OFFSET ?v_NOT_SEALED ?v_POKED ?v_RIGHTS ?v_RIGHTS_BITS ?w_RIGHTS_BITS ?v_STEP ?w_STEP ?v_TOP_OFFSET ?v_TOP_STEP ?v_WORTHS ?ac_Fault ?ac_NoAddress ?ac_NoBounds ?ac_NoOffset ?ac_NoWord ?ac_ReachError ?xl_Fault ?sa_Fault ?eb_Fault ?ty_Fault ?kc_Fault ?no_Fault ?in_Fault ?ti_Fault ?li_Fault ?ci_Fault ?ki_Fault ?xl_NoAddress ?sa_NoAddress ?eb_NoAddress ?ty_NoAddress ?kc_NoAddress ?no_NoAddress ?in_NoAddress ?ti_NoAddress ?li_NoAddress ?ci_NoAddress ?ki_NoAddress ?xl_NoBounds ?sa_NoBounds ?eb_NoBounds ?ty_NoBounds ?kc_NoBounds ?no_NoBounds ?in_NoBounds ?ti_NoBounds ?li_NoBounds ?ci_NoBounds ?ki_NoBounds ?xl_NoOffset ?sa_NoOffset ?eb_NoOffset ?ty_NoOffset ?kc_NoOffset ?no_NoOffset ?in_NoOffset ?ti_NoOffset ?li_NoOffset ?ci_NoOffset ?ki_NoOffset ?xl_NoWord ?sa_NoWord ?eb_NoWord ?ty_NoWord ?kc_NoWord ?no_NoWord ?in_NoWord ?ti_NoWord ?li_NoWord ?ci_NoWord ?ki_NoWord ?xb_NoAddress_ReachError ?xh_NoAddress_ReachError ?xt_NoAddress_ReachError ?xs_NoAddress_ReachError ?xb_NoWord_ReachError ?xh_NoWord_ReachError ?xt_NoWord_ReachError ?xs_NoWord_ReachError ?xb_NoOffset_ReachError ?xh_NoOffset_ReachError ?xt_NoOffset_ReachError ?xs_NoOffset_ReachError ?xb_NoBounds_ReachError ?xh_NoBounds_ReachError ?xt_NoBounds_ReachError ?xs_NoBounds_ReachError ?ecg_NoAddress ?eck_NoAddress ?ecs_NoAddress ?ecd_NoAddress ?eca_NoAddress ?ecn_NoAddress ?ect_NoAddress ?ecm_NoAddress ?ecg_NoWord ?eck_NoWord ?ecs_NoWord ?ecd_NoWord ?eca_NoWord ?ecn_NoWord ?ect_NoWord ?ecm_NoWord ?ecg_NoOffset ?eck_NoOffset ?ecs_NoOffset ?ecd_NoOffset ?eca_NoOffset ?ecn_NoOffset ?ect_NoOffset ?ecm_NoOffset ?ecg_NoBounds ?eck_NoBounds ?ecs_NoBounds ?ecd_NoBounds ?eca_NoBounds ?ecn_NoBounds ?ect_NoBounds ?ecm_NoBounds ?kt_NoAddress_NoAddress ?kt_NoAddress_NoWord ?kt_NoAddress_NoOffset ?kt_NoAddress_NoBounds ?kt_NoAddress_Fault ?kt_NoWord_NoAddress ?kt_NoWord_NoWord ?kt_NoWord_NoOffset ?kt_NoWord_NoBounds ?kt_NoWord_Fault ?kt_NoOffset_NoAddress ?kt_NoOffset_NoWord ?kt_NoOffset_NoOffset ?kt_NoOffset_NoBounds ?kt_NoOffset_Fault ?kt_NoBounds_NoAddress ?kt_NoBounds_NoWord ?kt_NoBounds_NoOffset ?kt_NoBounds_NoBounds ?kt_NoBounds_Fault
    (case ac_Cells => k_is)
    (case cpg_Cells => k_is)
    (case chd_Cells => k_is)
    (case cpo_Cells => k_is)
    (case csa_Cells => k_is)
    (case cmk_Cells => k_is)
    (case ckc_Cells => k_is)
    (case cst_Cells => k_is)
    (case cne_Cells => k_is)
    (case cmr_Cells => k_is)
    (case cta_Cells => k_is)
    (case ctb_Cells => k_is)
    (case ctc_Cells => k_is)
    (case ckt_Cells => kit_is)
    (case cks_Cells => kit_is)
    (case nf_Cells__words => k_is)
    (case a0 => k_is)
    (case l0 => k_is)
    (case c0 => k_is)
    (case k0 => k_is)
    (case a1 => k_is)
    (case l1 => k_is)
    (case c1 => k_is)
    (case k1 => k_is)
    (case a2 => k_is)
    (case l2 => k_is)
    (case c2 => k_is)
    (case k2 => k_is)
    (case a3 => k_is)
    (case l3 => k_is)
    (case c3 => k_is)
    (case k3 => k_is)
    (case a4 => k_is)
    (case l4 => k_is)
    (case c4 => k_is)
    (case k4 => k_is)
    (case a5 => k_is)
    (case l5 => k_is)
    (case c5 => k_is)
    (case k5 => k_is)
    (case a6 => k_is)
    (case l6 => k_is)
    (case c6 => k_is)
    (case k6 => k_is)
    (case a7 => k_is)
    (case l7 => k_is)
    (case c7 => k_is)
    (case k7 => k_is)
    (case a8 => k_is)
    (case l8 => k_is)
    (case c8 => k_is)
    (case k8 => k_is)
    (case a9 => k_is)
    (case l9 => k_is)
    (case c9 => k_is)
    (case k9 => k_is)
    (case a10 => k_is)
    (case l10 => k_is)
    (case c10 => k_is)
    (case k10 => k_is)
    (case a11 => k_is)
    (case l11 => k_is)
    (case c11 => k_is)
    (case k11 => k_is)
    (case a12 => k_is)
    (case l12 => k_is)
    (case c12 => k_is)
    (case k12 => k_is)
    (case a13 => k_is)
    (case l13 => k_is)
    (case c13 => k_is)
    (case k13 => k_is)
    (case a14 => k_is)
    (case l14 => k_is)
    (case c14 => k_is)
    (case k14 => k_is)
    (case a15 => k_is)
    (case l15 => k_is)
    (case c15 => k_is)
    (case k15 => k_is)
    (case a16 => k_is)
    (case l16 => k_is)
    (case c16 => k_is)
    (case k16 => k_is)
    (case a17 => k_is)
    (case l17 => k_is)
    (case c17 => k_is)
    (case k17 => k_is)
    (case m18 => k_is)
    (case n18 => k_is)
    (case l18 => k_is)
    (case c18 => k_is)
    (case k18 => k_is)
    (case m19 => k_is)
    (case n19 => k_is)
    (case l19 => k_is)
    (case c19 => k_is)
    (case k19 => k_is)
    (case m20 => k_is)
    (case n20 => k_is)
    (case l20 => k_is)
    (case c20 => k_is)
    (case k20 => k_is)
    (case m21 => k_is)
    (case n21 => k_is)
    (case l21 => k_is)
    (case c21 => k_is)
    (case k21 => k_is)
    (case m22 => k_is)
    (case n22 => k_is)
    (case l22 => k_is)
    (case c22 => k_is)
    (case k22 => k_is)
    (case m23 => k_is)
    (case n23 => k_is)
    (case l23 => k_is)
    (case c23 => k_is)
    (case k23 => k_is)
    (case dl23 => k_is)
    (case a24 => k_is)
    (case l24 => k_is)
    (case c24 => k_is)
    (case k24 => k_is)
    (case a25 => k_is)
    (case l25 => k_is)
    (case c25 => k_is)
    (case k25 => k_is)
    (case a26 => k_is)
    (case l26 => k_is)
    (case c26 => k_is)
    (case k26 => k_is)
    (case a27 => k_is)
    (case l27 => k_is)
    (case c27 => k_is)
    (case k27 => k_is)
    (case a28 => k_is)
    (case l28 => k_is)
    (case c28 => k_is)
    (case k28 => k_is)
    (case a29 => k_is)
    (case l29 => k_is)
    (case c29 => k_is)
    (case k29 => k_is)
    (case a30 => k_is)
    (case l30 => k_is)
    (case c30 => k_is)
    (case k30 => k_is)
    (case m31 => k_is)
    (case n31 => k_is)
    (case l31 => k_is)
    (case c31 => k_is)
    (case k31 => k_is)
    (case m32 => k_is)
    (case n32 => k_is)
    (case l32 => k_is)
    (case c32 => k_is)
    (case k32 => k_is)
    (case m33 => k_is)
    (case n33 => k_is)
    (case l33 => k_is)
    (case c33 => k_is)
    (case k33 => k_is)
    (case m34 => k_is)
    (case n34 => k_is)
    (case l34 => k_is)
    (case c34 => k_is)
    (case k34 => k_is)
    (case dl34 => k_is)
    (case a35 => k_is)
    (case l35 => k_is)
    (case c35 => k_is)
    (case k35 => k_is)
    (case a36 => k_is)
    (case l36 => k_is)
    (case c36 => k_is)
    (case k36 => k_is)
    (case a37 => k_is)
    (case l37 => k_is)
    (case c37 => k_is)
    (case k37 => k_is)
    (case m38 => k_is)
    (case n38 => k_is)
    (case l38 => k_is)
    (case c38 => k_is)
    (case k38 => k_is)
    (case m39 => k_is)
    (case n39 => k_is)
    (case l39 => k_is)
    (case c39 => k_is)
    (case k39 => k_is)
    (case m40 => k_is)
    (case n40 => k_is)
    (case l40 => k_is)
    (case c40 => k_is)
    (case k40 => k_is)
    (case m41 => k_is)
    (case n41 => k_is)
    (case l41 => k_is)
    (case c41 => k_is)
    (case k41 => k_is)
    (case dl41 => k_is)
    (case m42 => k_is)
    (case n42 => k_is)
    (case l42 => k_is)
    (case c42 => k_is)
    (case k42 => k_is)
    (case m43 => k_is)
    (case n43 => k_is)
    (case l43 => k_is)
    (case c43 => k_is)
    (case k43 => k_is)
    (case m44 => k_is)
    (case n44 => k_is)
    (case l44 => k_is)
    (case c44 => k_is)
    (case k44 => k_is)
    (case a45 => k_is)
    (case l45 => k_is)
    (case c45 => k_is)
    (case k45 => k_is)
    (case a46 => k_is)
    (case l46 => k_is)
    (case c46 => k_is)
    (case k46 => k_is)
    (case a47 => k_is)
    (case l47 => k_is)
    (case c47 => k_is)
    (case k47 => k_is)
    (case a48 => k_is)
    (case l48 => k_is)
    (case c48 => k_is)
    (case k48 => k_is)
    (case a49 => k_is)
    (case l49 => k_is)
    (case c49 => k_is)
    (case k49 => k_is)
    (case a50 => k_is)
    (case l50 => k_is)
    (case c50 => k_is)
    (case k50 => k_is)
    (case z_abs => k_is)
    (case z_any => k_is)
    (case z_bool => k_is)
    (case z_dict => k_is)
    (case z_enumerate => k_is)
    (case z_int => k_is)
    (case z_isinstance => k_is)
    (case z_len => k_is)
    (case z_list => k_is)
    (case z_max => k_is)
    (case z_min => k_is)
    (case z_range => k_is)
    (case z_repr => k_is)
    (case z_sorted => k_is)
    (case z_sum => k_is)
    (case z_tuple => k_is)
    (case v_AT => k_is)
    (case w_AT => k_is)
    (case v_CELLS => k_is)
    (case v_COUNT_LESS_ONE => k_is)
    (case w_COUNT_LESS_ONE => k_is)
    (case v_EMPTY => k_is)
    (case w_EMPTY => k_is)
    (case v_FIRST => k_is)
    (case w_FIRST => k_is)
    (case v_GROUPS => k_is)
    (case w_GROUPS => k_is)
    (case v_KIND => k_is)
    (case w_KIND => k_is)
    (case v_LEAST_COUNT => k_is)
    (case v_LEAST_OFFSET => k_is)
    (case v_NOT_SEALED => k_is)
    (case v_POKED => k_is)
    (case v_RIGHTS => k_is)
    (case v_RIGHTS_BITS => k_is)
    (case w_RIGHTS_BITS => k_is)
    (case v_STEP => k_is)
    (case w_STEP => k_is)
    (case v_TOP_OFFSET => k_is)
    (case v_TOP_STEP => k_is)
    (case v_WORTHS => k_is)
    (case ac_Fault => k_is)
    (case ac_NoAddress => k_is)
    (case ac_NoBounds => k_is)
    (case ac_NoOffset => k_is)
    (case ac_NoWord => k_is)
    (case ac_ReachError => k_is)
    (case xl_Fault => k_is)
    (case sa_Fault => k_is)
    (case eb_Fault => k_is)
    (case ty_Fault => k_is)
    (case kc_Fault => k_is)
    (case no_Fault => k_is)
    (case in_Fault => k_is)
    (case ti_Fault => k_is)
    (case li_Fault => k_is)
    (case ci_Fault => k_is)
    (case ki_Fault => k_is)
    (case xl_NoAddress => k_is)
    (case sa_NoAddress => k_is)
    (case eb_NoAddress => k_is)
    (case ty_NoAddress => k_is)
    (case kc_NoAddress => k_is)
    (case no_NoAddress => k_is)
    (case in_NoAddress => k_is)
    (case ti_NoAddress => k_is)
    (case li_NoAddress => k_is)
    (case ci_NoAddress => k_is)
    (case ki_NoAddress => k_is)
    (case xl_NoBounds => k_is)
    (case sa_NoBounds => k_is)
    (case eb_NoBounds => k_is)
    (case ty_NoBounds => k_is)
    (case kc_NoBounds => k_is)
    (case no_NoBounds => k_is)
    (case in_NoBounds => k_is)
    (case ti_NoBounds => k_is)
    (case li_NoBounds => k_is)
    (case ci_NoBounds => k_is)
    (case ki_NoBounds => k_is)
    (case xl_NoOffset => k_is)
    (case sa_NoOffset => k_is)
    (case eb_NoOffset => k_is)
    (case ty_NoOffset => k_is)
    (case kc_NoOffset => k_is)
    (case no_NoOffset => k_is)
    (case in_NoOffset => k_is)
    (case ti_NoOffset => k_is)
    (case li_NoOffset => k_is)
    (case ci_NoOffset => k_is)
    (case ki_NoOffset => k_is)
    (case xl_NoWord => k_is)
    (case sa_NoWord => k_is)
    (case eb_NoWord => k_is)
    (case ty_NoWord => k_is)
    (case kc_NoWord => k_is)
    (case no_NoWord => k_is)
    (case in_NoWord => k_is)
    (case ti_NoWord => k_is)
    (case li_NoWord => k_is)
    (case ci_NoWord => k_is)
    (case ki_NoWord => k_is)
    (case xb_NoAddress_ReachError => k_is)
    (case xh_NoAddress_ReachError => k_is)
    (case xt_NoAddress_ReachError => k_is)
    (case xs_NoAddress_ReachError => k_is)
    (case xb_NoWord_ReachError => k_is)
    (case xh_NoWord_ReachError => k_is)
    (case xt_NoWord_ReachError => k_is)
    (case xs_NoWord_ReachError => k_is)
    (case xb_NoOffset_ReachError => k_is)
    (case xh_NoOffset_ReachError => k_is)
    (case xt_NoOffset_ReachError => k_is)
    (case xs_NoOffset_ReachError => k_is)
    (case xb_NoBounds_ReachError => k_is)
    (case xh_NoBounds_ReachError => k_is)
    (case xt_NoBounds_ReachError => k_is)
    (case xs_NoBounds_ReachError => k_is)
    (case ecg_NoAddress => k_is)
    (case eck_NoAddress => k_is)
    (case ecs_NoAddress => k_is)
    (case ecd_NoAddress => k_is)
    (case eca_NoAddress => k_is)
    (case ecn_NoAddress => k_is)
    (case ect_NoAddress => k_is)
    (case ecm_NoAddress => k_is)
    (case ecg_NoWord => k_is)
    (case eck_NoWord => k_is)
    (case ecs_NoWord => k_is)
    (case ecd_NoWord => k_is)
    (case eca_NoWord => k_is)
    (case ecn_NoWord => k_is)
    (case ect_NoWord => k_is)
    (case ecm_NoWord => k_is)
    (case ecg_NoOffset => k_is)
    (case eck_NoOffset => k_is)
    (case ecs_NoOffset => k_is)
    (case ecd_NoOffset => k_is)
    (case eca_NoOffset => k_is)
    (case ecn_NoOffset => k_is)
    (case ect_NoOffset => k_is)
    (case ecm_NoOffset => k_is)
    (case ecg_NoBounds => k_is)
    (case eck_NoBounds => k_is)
    (case ecs_NoBounds => k_is)
    (case ecd_NoBounds => k_is)
    (case eca_NoBounds => k_is)
    (case ecn_NoBounds => k_is)
    (case ect_NoBounds => k_is)
    (case ecm_NoBounds => k_is)
    (case kt_NoAddress_NoAddress => kit_is)
    (case kt_NoAddress_NoWord => kit_is)
    (case kt_NoAddress_NoOffset => kit_is)
    (case kt_NoAddress_NoBounds => kit_is)
    (case kt_NoAddress_Fault => kit_is)
    (case kt_NoWord_NoAddress => kit_is)
    (case kt_NoWord_NoWord => kit_is)
    (case kt_NoWord_NoOffset => kit_is)
    (case kt_NoWord_NoBounds => kit_is)
    (case kt_NoWord_Fault => kit_is)
    (case kt_NoOffset_NoAddress => kit_is)
    (case kt_NoOffset_NoWord => kit_is)
    (case kt_NoOffset_NoOffset => kit_is)
    (case kt_NoOffset_NoBounds => kit_is)
    (case kt_NoOffset_Fault => kit_is)
    (case kt_NoBounds_NoAddress => kit_is)
    (case kt_NoBounds_NoWord => kit_is)
    (case kt_NoBounds_NoOffset => kit_is)
    (case kt_NoBounds_NoBounds => kit_is)
    (case kt_NoBounds_Fault => kit_is)
