import PyProof.Rows.All
import Wide.All
import OpenK.AllK
import Wide.FinOn
import HandS.ForMost
import HandS.IsInst
import HandS.Conv
import HandS.TupLe
import HandS.Walk
import HandS.Zip
import HandS.Defaults
import HandS.MakeKwOnly
import HandS.SetFor
import HandS.Wide
import HandS.ForExc
import HandS.ExcInit
import KE.KExcIs
import PyProof.ReprLen
import HandS.TupAny
import HandS.Style
import HandS.Star
import KE.KUnpackStar
import KE.GoesMore
import KE.GoesEnum
import PyProof.DictUpdate
import HandS.Deep
import HandS.ExcField
import HandS.Text
import HandS.StrMore
import HandS.Codes
import HandS.FStr
import KE.OsScanText
import HandS.RaiseMore
import PyProof.StrOps2
import PySem.Challenge.RW_sealedreach_k27_texts_of_no_rows
set_option Elab.async false
set_option linter.all false
set_option maxRecDepth 100000
set_option maxHeartbeats 4000000
namespace My
open PySem PySem.Spec PyProof.Rows L2
/-! ### calls of a def by its name alone -/
structure Cal (P : Program) (w : World) (K : PySem.W.Frag) (mg : Str → Option Value) (base : Heap) (x : Str) (k : Nat) (ps : List Str) (sp : Sp) : Prop where
  ex : ∃ (f : Addr) (fd : FuncData), FnOk P w K mg base CX0 k f fd ps sp ∧ mg x = some (.ref f) ∧ PySem.W.keepIn K (.ref f) = true ∧ Binds K fd ps []
theorem pe_cal {X : Cx} {x : Str} {k : Nat} {ps : List Str} {sp : Sp} {e : Expr} {es : List Expr} {t : TA} {p pos : Pos} (C : Cal X.prog X.w X.K X.mg X.base x k ps sp) (hr : Room k X.A)
    (ha : PA X (e :: es) t) (hg : Gl X x := by rfl) (hdb : (x == ("__debug__" : Str)) = false := by decide) (he : starEach (e :: es) X.env = (false, eval e X.env) :: starEach es X.env := by rfl) (hpl : (backTo pos (starEach es X.env)).any (·.1) = false := by rfl) :
    PE X (.Call (.Name x p) (e :: es) [] pos) (tCall sp [] E0 t) := by
  obtain ⟨f, fd, G, g, kp, b⟩ := C.ex
  exact pe_call G hr hg g kp b .nil pass0 ha hdb he hpl
theorem pe_cal0 {X : Cx} {x : Str} {k : Nat} {sp : Sp} {p pos : Pos} (C : Cal X.prog X.w X.K X.mg X.base x k [] sp) (hr : Room k X.A) (hg : Gl X x := by rfl) (hdb : (x == ("__debug__" : Str)) = false := by decide) :
    PE X (.Call (.Name x p) [] [] pos) (fun σ H Q => sp [] H Q E0) := by
  obtain ⟨f, fd, G, g, kp, b⟩ := C.ex
  exact pe_call0 G hr hg g kp b .nil pass0 hdb
/-- .. with defaults of its keyword-only names -/
structure CalD (P : Program) (w : World) (K : PySem.W.Frag) (mg : Str → Option Value) (base : Heap) (x : Str) (k : Nat) (ps : List Str) (dvs : List V) (sp : Sp) : Prop where
  ex : ∃ (f : Addr) (fd : FuncData) (ds : List Value), FnOk P w K mg base CX0 k f fd ps sp ∧ mg x = some (.ref f) ∧ PySem.W.keepIn K (.ref f) = true ∧ Vals dvs ds ∧ Binds K fd ps ds
theorem pe_calD {X : Cx} {x : Str} {k : Nat} {ps : List Str} {dvs : List V} {sp : Sp} {e : Expr} {es : List Expr} {t : TA} {p pos : Pos} (C : CalD X.prog X.w X.K X.mg X.base x k ps dvs sp) (hr : Room k X.A)
    (ha : PA X (e :: es) t) (hg : Gl X x := by rfl) (hdb : (x == ("__debug__" : Str)) = false := by decide) (he : starEach (e :: es) X.env = (false, eval e X.env) :: starEach es X.env := by rfl) (hpl : (backTo pos (starEach es X.env)).any (·.1) = false := by rfl) :
    PE X (.Call (.Name x p) (e :: es) [] pos) (tCall sp dvs E0 t) := by
  obtain ⟨f, fd, ds, G, g, kp, hd, b⟩ := C.ex
  exact pe_call G hr hg g kp b hd pass0 ha hdb he hpl
/-- .. called with one place and its keyword-only names -/
structure CalK (P : Program) (w : World) (K : PySem.W.Frag) (mg : Str → Option Value) (base : Heap) (x : Str) (k : Nat) (ps : List Str) (n : Nat) (ks : List Str) (sp : Sp) : Prop where
  ex : ∃ (f : Addr) (fd : FuncData) (g : List Value → List Value → List Value), FnOk P w K mg base CX0 k f fd ps sp ∧ mg x = some (.ref f) ∧ PySem.W.keepIn K (.ref f) = true ∧ KBn K fd ps n ks g (fun vs zs => vs ++ zs)
theorem pe_calK {X : Cx} {x : Str} {k n : Nat} {ps ks : List Str} {sp : Sp} {e : Expr} {es : List Expr} {kws : List Keyword} {t tk : TA} {p pos : Pos} (C : CalK X.prog X.w X.K X.mg X.base x k ps n ks sp) (hr : Room k X.A)
    (ha : PA X (e :: es) t) (hkw : PK X kws tk) (hg : Gl X x := by rfl) (hall : (backToKw pos (keywordEach kws X.env)).all (·.1.isSome) = true := by rfl) (hks : (backToKw pos (keywordEach kws X.env)).filterMap (·.1) = ks := by rfl)
    (hdb : (x == ("__debug__" : Str)) = false := by decide) (he : starEach (e :: es) X.env = (false, eval e X.env) :: starEach es X.env := by rfl)
    (hpl : ((backTo pos (starEach (e :: es) X.env)).any (·.1) || (backToKw pos (keywordEach kws X.env)).any (·.1.isNone)) = false := by rfl) :
    PE X (.Call (.Name x p) (e :: es) kws pos) (tCallN n ks.length sp (fun vs zs => vs ++ zs) E0 t tk) := by
  obtain ⟨f, fd, g, G, gm, kp, b⟩ := C.ex
  exact pe_callN G hr hg gm kp b pass0 ha hkw hall hks hdb he hpl
/-! ### tests -/
theorem ifnd {p : Prop} [Decidable p] {A B : Prop} (h1 : ¬ p → A) (h2 : p → B) : if (!decide p) = true then A else B := by
  by_cases h : p
  · rw [decide_eq_true h]; exact h2 h
  · rw [decide_eq_false h]; exact h1 h
theorem ifnb {c : Bool} {A B : Prop} (h1 : c = false → A) (h2 : c = true → B) : if (!c) = true then A else B := by
  cases c with
  | true => exact h2 rfl
  | false => exact h1 rfl
theorem ifd {p : Prop} [Decidable p] {A B : Prop} (h1 : p → A) (h2 : ¬ p → B) : if decide p = true then A else B := by
  by_cases h : p
  · rw [if_pos (decide_eq_true h)]; exact h1 h
  · rw [decide_eq_false h, if_neg Bool.false_ne_true]; exact h2 h
theorem ifP {p : Prop} [Decidable p] {A B : Prop} (h : p) (h1 : A) : if decide p = true then A else B := by
  rw [if_pos (decide_eq_true h)]; exact h1
theorem ifN {p : Prop} [Decidable p] {A B : Prop} (h : ¬ p) (h1 : B) : if decide p = true then A else B := by
  rw [decide_eq_false h, if_neg Bool.false_ne_true]; exact h1
theorem ifb {c : Bool} {A B : Prop} (h1 : c = true → A) (h2 : c = false → B) : if c = true then A else B := by
  cases c with
  | true => rw [if_pos rfl]; exact h1 rfl
  | false => rw [if_neg Bool.false_ne_true]; exact h2 rfl
theorem ifbT {c : Bool} {A B : Prop} (h : c = true) (h1 : A) : if c = true then A else B := by rw [if_pos h]; exact h1
theorem ifbF {c : Bool} {A B : Prop} (h : c = false) (h1 : B) : if c = true then A else B := by rw [h, if_neg Bool.false_ne_true]; exact h1
/-! ### heaps -/
theorem viaS {H H' : Hp} {b : Addr} {o : HO} (s : Same H H') (h : H b = some o) : H' b = some o := s b o h
theorem same_new {H : Hp} {p : Addr} {o : HO} (h : H p = none) : Same H (upd H p o) := fun b x e => by
  rw [upd_ne (ne_of_none e h)]; exact e
/-- all but what stands at a is as it was -/
def But (a : Addr) (H H' : Hp) : Prop := ∀ b o, b ≠ a → H b = some o → H' b = some o
theorem viaB {H H' : Hp} {a b : Addr} {o : HO} (s : But a H H') (n : b ≠ a) (h : H b = some o) : H' b = some o := s b o n h
theorem But.refl (a : Addr) (H : Hp) : But a H H := fun _ _ _ h => h
theorem But.of {a : Addr} {H H' : Hp} (s : Same H H') : But a H H' := fun b o _ h => s b o h
theorem But.trans {a : Addr} {H H1 H2 : Hp} (s : But a H H1) (t : But a H1 H2) : But a H H2 := fun b o n h => t b o n (s b o n h)
theorem But.upd {a : Addr} {H H' : Hp} {o : HO} (s : But a H H') : But a H (upd H' a o) := fun b x n h => by
  rw [upd_ne n]; exact s b x n h
theorem But.new {a p : Addr} {H H' : Hp} {o : HO} (s : But a H H') (n : H' p = none) : But a H (L2.upd H' p o) := fun b x nb h => by
  have e := s b x nb h
  rw [upd_ne (ne_of_none e n)]; exact e
theorem sameN {p : Addr} {H H' : Hp} {o : HO} (s : Same H H') (n : H' p = none) : Same H (L2.upd H' p o) := fun b x h => by
  have e := s b x h
  rw [upd_ne (ne_of_none e n)]; exact e
theorem updK {H : Hp} {a b : Addr} {o u : HO} (n : b ≠ a) (h : H b = some u) : L2.upd H a o b = some u := by rw [upd_ne n]; exact h
/-- the pool of a law: a list of two numbers, the second small -/
def Pool (H : Hp) (a : Addr) (x y : Int) : Prop := H a = some (.lst [.int x, .int y]) ∧ 0 ≤ x ∧ 0 ≤ y ∧ y < 2147483647

local macro_rules | `(tactic| walk_at "ne") => `(tactic| first | assumption | (apply Ne.symm; assumption) | (refine ne_of_none ?_ (by assumption); walk_at "at") | (apply Ne.symm; refine ne_of_none ?_ (by assumption); walk_at "at"))
local macro_rules | `(tactic| walk_at "at") => `(tactic| first | assumption | exact upd_same | (refine updK ?n ?h; (case n => walk_at "ne"); (case h => walk_at "at")) | (refine viaS (by assumption) ?_; walk_at "at") | (refine viaB (by assumption) ?n ?h; (case n => walk_at "ne"); (case h => walk_at "at")))
local macro_rules | `(tactic| walk_at "side") => `(tactic| first | rfl | omega | decide | (refine ⟨by omega, by omega, ?_⟩; first | decide | omega) | (refine Or.inl ⟨by omega, by omega⟩) | (refine Or.inr ⟨by omega, by omega⟩) | exact ⟨by omega, by omega⟩)
/-- one step of a reading whose answers are plain -/
local macro_rules | `(tactic| walk_at "g1") => `(tactic| first | refine ⟨_, rfl, ?_⟩ | refine ⟨_, _, rfl, rfl, ?_⟩ | refine ⟨by walk_at "side", ?_⟩)
local macro_rules | `(tactic| walk_at "g") => `(tactic| repeat walk_at "g1")
theorem sz {n : Nat} (h : n ≤ 1000) : n ≤ sizeLine := Nat.le_of_lt (small1000 h)
theorem Pool.new {H : Hp} {p q : Addr} {x y : Int} {o : HO} (h : Pool H p x y) (n : H q = none) : Pool (upd H q o) p x y := ⟨by rw [upd_ne (ne_of_none h.1 n)]; exact h.1, h.2⟩
def rep (c L : Int) : Int := if (if c < L then c else L) > 1 then (if c < L then c else L) else 1
theorem rep_le {c L : Int} (h : 1 ≤ c) (h2 : c ≤ 63) : 1 ≤ rep c L ∧ rep c L ≤ c := by
  unfold rep
  by_cases d : c < L
  · simp only [if_pos d]; split <;> omega
  · simp only [if_neg d]; split <;> omega
theorem rep_lo {c L : Int} (h : 1 ≤ c) (h2 : c ≤ 63) : -(2 ^ 62) ≤ rep c L := by have := (rep_le (L := L) h h2).1; omega
theorem rep_hi {c L : Int} (h : 1 ≤ c) (h2 : c ≤ 63) : rep c L < 2 ^ 62 := by have := (rep_le (L := L) h h2).2; omega
theorem rep_i {c L : Int} {i : Nat} (h : 1 ≤ c) (h2 : c ≤ 63) (k : i < (rep c L).toNat) : i ≤ 63 := by have := (rep_le (L := L) h h2).2; omega
/-- a pool's own changes leave what stood ahead of it -/
theorem sameP {H H1 H2 H3 : Hp} {p : Addr} (s : Same H H1) (s1 : Same H1 H2) (n : H1 p = none) (b : But p H2 H3) : Same H H3 := fun c o e =>
  b c o (ne_of_none (s c o e) n) (s1 _ _ (s _ _ e))
theorem pick {xs : List V} {r : Int} (P : V → Prop) (h0 : 0 ≤ r) (h1 : r < (xs.length : Int)) (hP : ∀ v ∈ xs, P v) : ∃ v, atI xs r = some v ∧ P v := by
  obtain ⟨j, rfl⟩ : ∃ j : Nat, r = (j : Int) := ⟨r.toNat, by omega⟩
  have hj : j < xs.length := by omega
  exact ⟨xs[j], atI_nat (List.getElem?_eq_getElem hj), hP _ (List.getElem_mem hj)⟩
theorem cut63 {ns : List Int} (h : ns.length ≤ 63) : cutV (ns.map V.int) none (some 63) = ns.map V.int := by
  unfold cutV
  rw [show HT.sIx (ns.map V.int).length (ns.map V.int).length (some 63) = min 63 (ns.map V.int).length from HT.sIx_nat _ _ 63, HT.sIx_none]
  rw [List.drop_zero, Nat.sub_zero, List.length_map, Nat.min_eq_right h]
  exact List.take_of_length_le (by simp)
theorem qb {Q : VK} {H : Hp} {b b' : Bool} (q : Q (.bl b') H) (e : b = b') : Q (.bl b) H := e ▸ q
theorem qi {Q : VK} {H : Hp} {i j : Int} (q : Q (.int j) H) (e : i = j) : Q (.int i) H := e ▸ q
/-! ### enumerate over a text -/
def Ies (x : Str) : It := ⟨fun i _ => i < x.cps.size, fun i H v H' => ∃ T c, v = .ref T ∧ H T = none ∧ H' = upd H T (.tup [.int (i : Nat), .str ⟨#[c]⟩]) ∧ x.cps[i]? = some c, fun i _ => i = x.cps.size⟩
theorem turn_enumS {P : Program} {w : World} {K : PySem.W.Frag} {elts : List Expr} {kk : Nat} {tpos : Pos} (e it : Addr) (x : Str) (t : Tok) :
    Turn P w K (.Tuple elts kk tpos) (Ies x) [e, it] e (fun i h => (∃ old, IsEnum h e it ((i : Nat) : Int) old) ∧ h.IsStrIter it (strIterType x) x t i ∧ e ≠ it) where
  mem := by simp
  obj := fun i h st b hb => by
    obtain ⟨⟨old, he⟩, ⟨o, ho, hc, hd⟩, _⟩ := st
    have e' : b = e ∨ b = it := by simpa using hb
    rcases e' with z | z
    · rw [z]; exact ⟨_, he, fun v q => nomatch q⟩
    · rw [z]; exact ⟨o, ho, fun v q => by rw [hd] at q; cases q⟩
  keep := fun i h h' st k => let ⟨⟨old, he⟩, ⟨o, ho, r⟩, hne⟩ := st; ⟨⟨old, k e (by simp) _ he⟩, ⟨o, k it (by simp) o ho, r⟩, hne⟩
  item := by
    intro X hP hw hK hc i pins s σ H E I hf st hg
    subst hP hw hK
    obtain ⟨⟨old, he⟩, hit, hne⟩ := st
    have hel : e < s.heap.objs.size := Heap.lt_size he
    have hil : it < s.heap.objs.size := by obtain ⟨_, q, _⟩ := hit; exact Heap.lt_size q
    have hd : X.A.in1.handled = none := I.ok.hd hc
    have D : Draws X.prog X.w X.A.in1 it [it] x.cps.size (fun i v => ∃ c u, x.cps[i]? = some c ∧ v = .str ⟨#[c]⟩ u) (fun i h => h.IsStrIter it (strIterType x) x t i) := by
      unfold strIterType
      split
      · exact Draws.strAscii hd it x t
      · exact Draws.strWide hd it x t
    refine wpAny_pyNext_enum_itemD D he hit hg hne (by simpa using hne) fun v h' tk hv ho hit' hT hsz hk => ?_
    obtain ⟨c, u, hcx, rfl⟩ := hv
    refine ⟨_, rfl, wpAny_letOwnedTupleGo_enum (s := { s with heap := h', toks := tk + 1 }) ho fun h'' he' sb => ?_⟩
    have hT2 : h''.get? s.heap.objs.size = some { cls := .type "tuple", data := .seq #[.int i tk, .str ⟨#[c]⟩ u] } := (sb.2 _ (Nat.ne_of_gt hel)).trans hT
    have new : ObjOk X.prog X.w (upd H s.heap.objs.size (.tup [.int (i : Nat), .str ⟨#[c]⟩])) h'' s.heap.objs.size (.tup [.int (i : Nat), .str ⟨#[c]⟩]) :=
      ⟨by show 2 ≤ sizeLine; decide, [.int i tk, .str ⟨#[c]⟩ u], .cons ⟨_, rfl⟩ (.cons ⟨_, rfl⟩ .nil), ⟨_, hT2, rfl, _, rfl⟩⟩
    have I1 : Inv X pins σ (upd H s.heap.objs.size (.tup [.int (i : Nat), .str ⟨#[c]⟩])) { s with heap := h'', toks := tk + 1 } :=
      I.turnedNew (ch := [e, it]) (fun b ob hb q => (sb.2 b (fun z => hb (by simp [z]))).trans (hk b ob (fun z => hb (by simp [z])) (fun z => hb (by simp [z])) q)) hf (Nat.le_refl _) new
    refine ⟨.ref s.heap.objs.size, _, I1, rfl, ⟨_, c, rfl, I.hok.fresh (Nat.le_refl _), rfl, hcx⟩, ⟨⟨.str ⟨#[c]⟩ u, ?_⟩, ?_, hne⟩, fun b hb => ?_⟩
    · have e1 : ((i + 1 : Nat) : Int) = (i : Int) + 1 := by omega
      rw [e1]; exact he'
    · obtain ⟨o2, q2, r2⟩ := hit'
      exact ⟨o2, (sb.2 it (Ne.symm hne)).trans q2, r2⟩
    · have hb' : b < s.heap.objs.size := by
        have e' : b = e ∨ b = it := by simpa using hb
        rcases e' with z | z
        · rw [z]; exact hel
        · rw [z]; exact hil
      rw [upd_ne (Nat.ne_of_lt hb')]
      exact (hf b hb).1
  done := by
    intro X hP hw hK hc i pins s σ H E I hf st hg
    subst hP hw hK
    obtain ⟨⟨old, he⟩, hit, hne⟩ := st
    have hg' : i = x.cps.size := hg
    subst hg'
    have hd : X.A.in1.handled = none := I.ok.hd hc
    have D : Draws X.prog X.w X.A.in1 it [it] x.cps.size (fun i v => ∃ c u, x.cps[i]? = some c ∧ v = .str ⟨#[c]⟩ u) (fun i h => h.IsStrIter it (strIterType x) x t i) := by
      unfold strIterType
      split
      · exact Draws.strAscii hd it x t
      · exact Draws.strWide hd it x t
    obtain ⟨f0, f1, f2, f3, f4, f5⟩ := hf it (by simp)
    exact wpAny_pyNext_enum_endD D he hit fun h' eb => ⟨rfl, I.turned (t' := s.toks) (fun b o hb q => eb b o hb q) f0 f1 f3 f4 f5⟩
  self := fun A i s Q E st h => let ⟨⟨_, he⟩, _⟩ := st; wpAny_pyIter_enum he h
def iEnumS (ta : TA) : TI := fun σ H R => ta σ H fun vs H1 => ∃ x : Str, vs = [.str x] ∧ R (Ies x) H1
theorem pi_enumS {X : Cx} {e : Expr} {ta : TA} {p pos tpos : Pos} {elts : List Expr} {kk : Nat} (hg : Gl X "enumerate") (hm : X.mg "enumerate" = none) (ha : PA X [e] ta) (hs : starEach [e] X.env = [(false, eval e X.env)] := by rfl) :
    PI X (.Tuple elts kk tpos) (.Call (.Name "enumerate" p) [e] [] pos) (iEnumS ta) := by
  refine ⟨fun pins s σ H R I h => ?_⟩
  refine Call_ (ld_blt I hg hm boot_enumerate (PyProof.Rows.callWith_type1 (thn (ha.run pos pins s σ H _ I h) fun us s1 ⟨vs, H1, I1, r1, q1⟩ => ?_) hs rfl))
  obtain ⟨x, ex, q⟩ := q1
  subst ex
  cases r1 with
  | cons r rr =>
    cases rr
    obtain ⟨t, rfl⟩ := r
    refine call_enumerate_str fun h' he hit hsz hk => wpAny_pyIter_enum he ?_
    have I2 : Inv X pins σ H1 { s1 with heap := h' } := I1.kept (t' := s1.toks) hk
    refine ⟨s1.heap.objs.size + 1, [s1.heap.objs.size + 1, s1.heap.objs.size], _, _, H1, rfl, I2, turn_enumS (s1.heap.objs.size + 1) s1.heap.objs.size x t, ⟨⟨.none, he⟩, hit, Nat.succ_ne_self _⟩, fun b hb => ?_, q⟩
    have e' : b = s1.heap.objs.size + 1 ∨ b = s1.heap.objs.size := by simpa using hb
    have hle : s1.heap.objs.size ≤ b := by
      rcases e' with z | z
      · rw [z]; exact Nat.le_add_right _ _
      · rw [z]; exact Nat.le_refl _
    exact I1.fpOk hle (I1.hok.fresh hle)
theorem walk_enumS {z : Str} : Walk (Ies z) z.cps.size (fun _ => True) (YPair (fun i => some (.int (i : Nat))) (fun i => (z.cps[i]?).map fun c => .str ⟨#[c]⟩)) where
  goes := fun i H hi _ => hi
  stops := fun H _ => rfl
  yields := fun i H x H' hi _ y => by
    obtain ⟨T, c, rfl, hn, rfl, hc⟩ := y
    exact ⟨T, _, _, rfl, hn, rfl, rfl, by simp [hc]⟩
theorem walk_zipT {K : PySem.W.Frag} {a b : Addr} {xs ys : List V} {n : Nat} (hn : n = min xs.length ys.length) : Walk (RZ.ItzT K a b) n (fun H => SqT K H a xs ∧ SqT K H b ys) (YPair (fun i => xs[i]?) (fun i => ys[i]?)) where
  goes := fun i H hi h => by
    have h1 : i < xs.length := by omega
    have h2 : i < ys.length := by omega
    exact ⟨xs, ys, xs[i], ys[i], h.1, h.2, List.getElem?_eq_getElem h1, List.getElem?_eq_getElem h2⟩
  stops := fun H h => ⟨xs, ys, h.1, h.2, by omega⟩
  yields := fun i H x H' hi h y => by
    obtain ⟨T, x1, y1, rfl, hn', rfl, h1, h2⟩ := y
    exact ⟨T, x1, y1, rfl, hn', rfl, h1 xs h.1, h2 ys h.2⟩

theorem b01 (k : Bool) : -(2 ^ 64) < (if k then (1 : Int) else 0) ∧ (if k then (1 : Int) else 0) < 2 ^ 64 := by cases k <;> decide
theorem mixb (z : Int) : -(2 ^ 64) < z % 2147483647 ∧ z % 2147483647 < 2 ^ 64 := by omega
theorem sizeb (c : Int) (k : Bool) : 0 ≤ (if c < 0 then -c else c) * (if k then (1 : Int) else 0) := by
  cases k
  · simp
  · simp; split <;> omega

/-! ### the mathematics of bounds -/
def Dd (lo hi : Int) (t : Nat) : Int := (hi - 1) / 2 ^ t - lo / 2 ^ t
def StepIs (lo hi : Int) (s : Nat) : Prop := s ≤ 8 ∧ Dd lo hi s ≤ 15 ∧ ∀ t, t < s → 15 < Dd lo hi t
def Bd (lo hi : Int) : Prop := 0 ≤ lo ∧ lo < hi ∧ hi ≤ 4096
def Ex (lo hi : Int) (s : Nat) : Prop := StepIs lo hi s ∧ lo / 2 ^ s * 2 ^ s = lo ∧ ((hi - 1) / 2 ^ s + 1) * 2 ^ s = hi
theorem le8 {s : Nat} (h : s ≤ 8) : s = 0 ∨ s = 1 ∨ s = 2 ∨ s = 3 ∨ s = 4 ∨ s = 5 ∨ s = 6 ∨ s = 7 ∨ s = 8 := by omega
theorem StepIs.uniq {lo hi : Int} {s t : Nat} (h : StepIs lo hi s) (k : StepIs lo hi t) : s = t := by
  rcases Nat.lt_trichotomy s t with c | c | c
  · have := k.2.2 s c; have := h.2.1; omega
  · exact c
  · have := h.2.2 t c; have := k.2.1; omega
theorem pow_pos2 (s : Nat) : (0 : Int) < 2 ^ s := Int.pow_pos (by decide)
theorem over_eq (lo hi : Int) (s : Nat) : (hi + 1 * 2 ^ s - 1) / 2 ^ s - lo / 2 ^ s = Dd lo hi s + 1 := by
  have e : hi + 1 * 2 ^ s - 1 = (hi - 1) + 1 * 2 ^ s := by omega
  rw [e, Int.add_mul_ediv_right _ _ (Int.ne_of_gt (pow_pos2 s))]
  unfold Dd
  omega
theorem first_over (lo hi : Int) (s : Nat) : lo / 2 ^ s + (Dd lo hi s + 1) = (hi - 1) / 2 ^ s + 1 := by
  unfold Dd; omega
theorem dd8 {lo hi : Int} (b : Bd lo hi) : Dd lo hi 8 ≤ 15 := by
  obtain ⟨h1, h2, h3⟩ := b
  unfold Dd
  have e : (2 : Int) ^ 8 = 256 := by decide
  rw [e]; omega
/-- going up from nought: below s all are too many -/
theorem lt8 {lo hi : Int} {s : Nat} (b : Bd lo hi) (h : 15 < Dd lo hi s) (u : s ≤ 8) : s < 8 := by
  rcases Nat.lt_or_ge s 8 with c | c
  · exact c
  · have e : s = 8 := by omega
    subst e
    have := dd8 b
    omega
/-- what a shift asks -/
theorem p8 {s : Nat} (h : s ≤ 8) : (2 : Int) ^ s ≤ 256 := by
  rcases le8 h with e | e | e | e | e | e | e | e | e <;> subst e <;> decide
theorem na {x : Int} (h0 : 0 ≤ x) (h1 : x ≤ 100000) : x.natAbs < 2 ^ 64 := by omega
theorem div_le' {x : Int} {s : Nat} (h0 : 0 ≤ x) : 0 ≤ x / 2 ^ s ∧ x / 2 ^ s ≤ x :=
  ⟨Int.ediv_nonneg h0 (Int.le_of_lt (pow_pos2 s)), Int.ediv_le_self _ h0⟩
theorem bc {lo hi : Int} {s : Nat} (b : Bd lo hi) (h : s ≤ 8) : CPow (lo / 2 ^ s) (s : Int) := by
  have := div_le' (s := s) b.1
  have := b.2
  exact ⟨by omega, by omega, na (by omega) (by omega)⟩
theorem bc2 {lo hi : Int} {s : Nat} (b : Bd lo hi) (h : StepIs lo hi s) : CPow (lo / 2 ^ s + (Dd lo hi s + 1)) (s : Int) := by
  have h8 := h.1
  obtain ⟨b1, b2, b3⟩ := b
  have := div_le' (s := s) (x := hi - 1) (by omega)
  rw [first_over]
  exact ⟨by omega, by omega, na (by omega) (by omega)⟩
theorem dd0 (n : Int) (s : Nat) : Dd 0 n s + 1 = (n - 1) / 2 ^ s + 1 := by
  unfold Dd; rw [Int.zero_ediv]; omega
theorem bc3 {n : Int} {s : Nat} (h : StepIs 0 n s) (b : Bd 0 n) : CPow (Dd 0 n s + 1) (s : Int) := by
  have h8 := h.1
  obtain ⟨b1, b2, b3⟩ := b
  have := div_le' (s := s) (x := n - 1) (by omega)
  rw [dd0]
  exact ⟨by omega, by omega, na (by omega) (by omega)⟩
def Can (lo hi : Int) (s : Nat) : Prop := lo % 2 ^ s = 0 ∧ 9 ≤ (hi - lo) / 2 ^ s
def GH (lo hi : Int) (s : Nat) : Prop := s ≤ 8 ∧ (s = 0 ∨ Can lo hi s) ∧ ∀ t, s < t → t ≤ 8 → ¬ Can lo hi t
def mn (lo hi : Int) (s : Nat) : Int := if (hi - lo) / 2 ^ s < 16 then (hi - lo) / 2 ^ s else 16
theorem cmn {lo hi : Int} {s : Nat} (b : Bd lo hi) (h : s ≤ 8) : CPow (mn lo hi s) (s : Int) := by
  obtain ⟨b1, b2, b3⟩ := b
  have := div_le' (s := s) (x := hi - lo) (by omega)
  unfold mn
  refine ⟨by omega, by omega, na ?_ ?_⟩ <;> split <;> omega
theorem bl_int {a b : Int} : decide (V.int a = V.int b) = decide (a = b) := by
  by_cases h : a = b
  · subst h; simp
  · have : ¬ (V.int a = V.int b) := fun e => h (V.int.inj e)
    simp [h, this]
theorem t2_eqv {a b c d : Int} : PyData.eqv (.tuple [.int a, .int b]) (.tuple [.int c, .int d]) = true ↔ a = c ∧ b = d := by
  simp [PyData.eqv, PyData.eqvAll]
theorem t2_no {a b c d : Int} (e : PyData.eqv (.tuple [.int a, .int b]) (.tuple [.int c, .int d]) = false) (h1 : a = c) (h2 : b = d) : False := by
  rw [t2_eqv.mpr ⟨h1, h2⟩] at e; cases e
theorem dp2 {K : PySem.W.Frag} {H : Hp} {p : Addr} {a b : Int} (h : H p = some (.tup [.int a, .int b])) : Dp K H (.ref p) (.tuple [.int a, .int b]) :=
  .tup (.of h) (.cons (.int a) (.cons (.int b) .nil))
theorem t3_eqv {a b x c d y : Int} : PyData.eqv (.tuple [.int a, .int b, .int x]) (.tuple [.int c, .int d, .int y]) = true ↔ a = c ∧ b = d ∧ x = y := by
  simp [PyData.eqv, PyData.eqvAll]
theorem dp3 {K : PySem.W.Frag} {H : Hp} {p : Addr} {a b c : Int} (h : H p = some (.tup [.int a, .int b, .int c])) : Dp K H (.ref p) (.tuple [.int a, .int b, .int c]) :=
  .tup (.of h) (.cons (.int a) (.cons (.int b) (.cons (.int c) .nil)))

/-! ### things of any kind -/
inductive Kd (H : Hp) : V → Prop where
  | non : Kd H .non
  | bl (b : Bool) : Kd H (.bl b)
  | int (i : Int) : Kd H (.int i)
  | str (x : Str) : Kd H (.str x)
  | lst {p : Addr} {xs : List V} (e : H p = some (.lst xs)) : Kd H (.ref p)
  | tup {p : Addr} {xs : List V} (e : H p = some (.tup xs)) : Kd H (.ref p)
  | dk {p : Addr} {kvs : List (Key × V)} (e : H p = some (.dK kvs)) : Kd H (.ref p)
theorem Kd.same {H H' : Hp} {v : V} (k : Kd H v) (s : Same H H') : Kd H' v := by
  cases k with
  | non => exact .non
  | bl b => exact .bl b
  | int i => exact .int i
  | str x => exact .str x
  | lst e => exact .lst (s _ _ e)
  | tup e => exact .tup (s _ _ e)
  | dk e => exact .dk (s _ _ e)
def isI : V → Bool | .int _ => true | .bl _ => true | _ => false
def isB : V → Bool | .bl _ => true | _ => false
def isS : V → Bool | .str _ => true | _ => false
theorem Kd.int? {K : PySem.W.Frag} {H : Hp} {v : V} (k : Kd H v) : ∃ t, TyX K H v t ∧ PySem.W.kitOne K t (.type "int") = some (isI v) := by
  cases k with
  | non => exact ⟨_, .base .non, kit_ty (r := false) (by decide +kernel)⟩
  | bl b => exact ⟨_, .base (.bl b), kit_ty (r := true) (by decide +kernel)⟩
  | int i => exact ⟨_, .base (.int i), kit_ty (r := true) (by decide +kernel)⟩
  | str x => exact ⟨_, .base (.str x), kit_ty (r := false) (by decide +kernel)⟩
  | lst e => exact ⟨_, .base (.lst e), kit_ty (r := false) (by decide +kernel)⟩
  | tup e => exact ⟨_, .base (.tup e), kit_ty (r := false) (by decide +kernel)⟩
  | dk e => exact ⟨_, .base (.dK e), kit_ty (r := false) (by decide +kernel)⟩
theorem Kd.bool? {K : PySem.W.Frag} {H : Hp} {v : V} (k : Kd H v) : ∃ t, TyX K H v t ∧ PySem.W.kitOne K t (.type "bool") = some (isB v) := by
  cases k with
  | non => exact ⟨_, .base .non, kit_ty (r := false) (by decide +kernel)⟩
  | bl b => exact ⟨_, .base (.bl b), kit_ty (r := true) (by decide +kernel)⟩
  | int i => exact ⟨_, .base (.int i), kit_ty (r := false) (by decide +kernel)⟩
  | str x => exact ⟨_, .base (.str x), kit_ty (r := false) (by decide +kernel)⟩
  | lst e => exact ⟨_, .base (.lst e), kit_ty (r := false) (by decide +kernel)⟩
  | tup e => exact ⟨_, .base (.tup e), kit_ty (r := false) (by decide +kernel)⟩
  | dk e => exact ⟨_, .base (.dK e), kit_ty (r := false) (by decide +kernel)⟩
theorem Kd.str? {K : PySem.W.Frag} {H : Hp} {v : V} (k : Kd H v) : ∃ t, TyX K H v t ∧ PySem.W.kitOne K t (.type "str") = some (isS v) := by
  cases k with
  | non => exact ⟨_, .base .non, kit_ty (r := false) (by decide +kernel)⟩
  | bl b => exact ⟨_, .base (.bl b), kit_ty (r := false) (by decide +kernel)⟩
  | int i => exact ⟨_, .base (.int i), kit_ty (r := false) (by decide +kernel)⟩
  | str x => exact ⟨_, .base (.str x), kit_ty (r := true) (by decide +kernel)⟩
  | lst e => exact ⟨_, .base (.lst e), kit_ty (r := false) (by decide +kernel)⟩
  | tup e => exact ⟨_, .base (.tup e), kit_ty (r := false) (by decide +kernel)⟩
  | dk e => exact ⟨_, .base (.dK e), kit_ty (r := false) (by decide +kernel)⟩
/-- it is no tuple -/
inductive NoT (H : Hp) : V → Prop where
  | non : NoT H .non
  | bl (b : Bool) : NoT H (.bl b)
  | int (i : Int) : NoT H (.int i)
  | str (x : Str) : NoT H (.str x)
  | lst {p : Addr} {xs : List V} (e : H p = some (.lst xs)) : NoT H (.ref p)
  | dk {p : Addr} {kvs : List (Key × V)} (e : H p = some (.dK kvs)) : NoT H (.ref p)
theorem NoT.tup? {K : PySem.W.Frag} {H : Hp} {v : V} (k : NoT H v) : ∃ t, TyX K H v t ∧ PySem.W.kitOne K t (.type "tuple") = some false := by
  cases k with
  | non => exact ⟨_, .base .non, kit_ty (by decide +kernel)⟩
  | bl b => exact ⟨_, .base (.bl b), kit_ty (by decide +kernel)⟩
  | int i => exact ⟨_, .base (.int i), kit_ty (by decide +kernel)⟩
  | str x => exact ⟨_, .base (.str x), kit_ty (by decide +kernel)⟩
  | lst e => exact ⟨_, .base (.lst e), kit_ty (by decide +kernel)⟩
  | dk e => exact ⟨_, .base (.dK e), kit_ty (by decide +kernel)⟩
/-! ### texts of rights -/
def RT : Str := Str.ofString "rwlsnfxco"
def code (k : Nat) : Nat := [114, 119, 108, 115, 110, 102, 120, 99, 111].getD k 0
def one (c : Nat) : Str := ⟨#[c]⟩
theorem RT_size : RT.cps.size = 9 := by decide +kernel
theorem RT_get : ∀ k, k < 9 → RT.cps[k]? = some (code k) := by decide +kernel
theorem code_inj : ∀ j, j < 9 → ∀ k, k < 9 → code j = code k → j = k := by decide +kernel
def rcs (p : Nat → Bool) (i : Nat) : List Str := ((List.range i).filter p).map fun k => one (code k)
def rtx (p : Nat → Bool) : Str := Txt.join (Str.ofString "") (rcs p 9)
theorem joinL_nil : ∀ l : List (List Nat), TL.joinL [] l = l.flatten
  | [] => rfl
  | [p] => by simp [TL.joinL]
  | p :: q :: r => by
    show p ++ ([] ++ TL.joinL [] (q :: r)) = _
    rw [joinL_nil (q :: r)]; simp
theorem rtx_codes (p : Nat → Bool) : (rtx p).cps.toList = ((List.range 9).filter p).map code := by
  unfold rtx
  rw [TL.join_eq]
  show TL.tl (Str.join _ _) = _
  rw [TL.tl_join]
  have e : TL.tl (Str.ofString "") = [] := by decide +kernel
  rw [e, joinL_nil]
  unfold rcs
  generalize (List.range 9).filter p = l
  induction l with
  | nil => rfl
  | cons x r ih =>
    simp only [List.map_cons, List.flatten_cons] at *
    rw [ih]; rfl
theorem rtx_mem (p : Nat → Bool) {k : Nat} (hk : k < 9) : code k ∈ (rtx p).cps.toList ↔ p k = true := by
  rw [rtx_codes, List.mem_map]
  constructor
  · rintro ⟨j, hj, e⟩
    obtain ⟨h1, h2⟩ := List.mem_filter.mp hj
    have : j = k := code_inj j (List.mem_range.mp h1) k hk e
    subst this; exact h2
  · intro h
    exact ⟨k, List.mem_filter.mpr ⟨List.mem_range.mpr hk, h⟩, rfl⟩
theorem rcs_succ (p : Nat → Bool) (i : Nat) : rcs p (i + 1) = rcs p i ++ (if p i = true then [one (code i)] else []) := by
  unfold rcs
  rw [List.range_succ, List.filter_append, List.map_append]
  congr 1
  by_cases h : p i = true
  · simp [h]
  · simp [h]
theorem rcs_len (p : Nat → Bool) (i : Nat) : (rcs p i).length ≤ i := by
  unfold rcs
  rw [List.length_map]
  exact Nat.le_trans (List.length_filter_le _ _) (by rw [List.length_range]; exact Nat.le_refl _)
theorem rcs_one (p : Nat → Bool) (i : Nat) : ((rcs p i).map (·.length)).sum = (rcs p i).length := by
  unfold rcs
  generalize (List.range i).filter p = l
  induction l with
  | nil => rfl
  | cons x r ih =>
    simp only [List.map_cons, List.sum_cons, List.length_cons] at *
    rw [ih]
    show 1 + _ = _
    omega
theorem rcs_fit (p : Nat → Bool) : ((rcs p 9).map (·.length)).sum + (rcs p 9).length * (Str.ofString "").length ≤ 16777216 := by
  have e : (Str.ofString "").length = 0 := by decide +kernel
  rw [e, rcs_one]
  have := rcs_len p 9
  omega
theorem szn {n : Nat} (h : n < 1000) : n < sizeLine := small1000 (Nat.le_of_lt h)
/-- the right k is in a text -/
def hasR (r : Str) (k : Nat) : Bool := decide (code k ∈ r.cps.toList)
def hasG (r g : Str) : Bool := g.cps.toList.any fun c => decide (c ∈ r.cps.toList)
def G0 : Str := Str.ofString "rwlsn"
def G1 : Str := Str.ofString "x"
def G2 : Str := Str.ofString "co"
def OneW (r : Str) : Prop := ([G0, G1, G2].filter (hasG r)).length ≤ 1
def mask (p : Nat → Bool) (i : Nat) : List Int := ((List.range i).filter p).map fun k => (2 : Int) ^ k
def maskOf (r : Str) : Int := (mask (hasR r) 9).sum
theorem mask_succ (p : Nat → Bool) (i : Nat) : mask p (i + 1) = mask p i ++ (if p i = true then [(2 : Int) ^ i] else []) := by
  unfold mask
  rw [List.range_succ, List.filter_append, List.map_append]
  congr 1
  by_cases h : p i = true
  · simp [h]
  · simp [h]
theorem mask_len (p : Nat → Bool) (i : Nat) : (mask p i).length ≤ i := by
  unfold mask
  rw [List.length_map]
  exact Nat.le_trans (List.length_filter_le _ _) (by rw [List.length_range]; exact Nat.le_refl _)
theorem i0 (i : Nat) : (0 : Int) + (i : Int) = (i : Int) := by omega
theorem take_any {g r : Str} {i : Nat} (hi : i < g.cps.size) : (g.cps.toList.take (i + 1)).map (fun c => decide (c ∈ r.cps.toList)) = (g.cps.toList.take i).map (fun c => decide (c ∈ r.cps.toList)) ++ [decide (g.cps[i] ∈ r.cps.toList)] := by
  rw [List.take_add_one, List.map_append]
  congr 1
  simp [hi]
theorem wipe_in {σ : L2.St} {i : Nat} : ∀ {vs : List Nat}, i ∈ vs → (wipe σ vs)[i]? = if i < σ.length then some none else none
  | [], h => by cases h
  | a :: vs, h => by
    show ((wipe σ vs).set a none)[i]? = _
    by_cases e : a = i
    · subst e
      rw [List.getElem?_set_self']
      by_cases l : a < σ.length
      · rw [if_pos l, List.getElem?_eq_getElem (by rw [wipe_length]; exact l)]; rfl
      · rw [if_neg l, List.getElem?_eq_none (by rw [wipe_length]; omega)]; rfl
    · rw [List.getElem?_set_ne e]
      exact wipe_in (by rcases List.mem_cons.mp h with q | q; exact absurd q.symm e; exact q)
theorem wipe_set {σ : L2.St} {vs : List Nat} {j : Nat} {v : Option V} (h : j ∈ vs) : wipe (σ.set j v) vs = wipe σ vs := by
  refine List.ext_getElem? fun i => ?_
  by_cases c : i ∈ vs
  · rw [wipe_in c, wipe_in c, List.length_set]
  · have n : j ≠ i := fun e => c (e ▸ h)
    rw [wipe_out c, wipe_out c, List.getElem?_set_ne n]
theorem wipe_wipe {σ : L2.St} {vs : List Nat} : wipe (wipe σ vs) vs = wipe σ vs := by
  refine List.ext_getElem? fun i => ?_
  by_cases c : i ∈ vs
  · rw [wipe_in c, wipe_in c, wipe_length]
  · rw [wipe_out c]
theorem wp1 {σ : L2.St} {vs : List Nat} {j : Nat} {v : Option V} (h : j ∈ vs) : wipe ((wipe σ vs).set j v) vs = wipe σ vs := by rw [wipe_set h, wipe_wipe]
theorem wp2 {σ : L2.St} {vs : List Nat} {j k : Nat} {v u : Option V} (h : j ∈ vs) (h2 : k ∈ vs) : wipe (((wipe σ vs).set j v).set k u) vs = wipe σ vs := by rw [wipe_set h2, wipe_set h, wipe_wipe]
def bitp (m : Int) : Nat → Bool := fun k => decide (m / 2 ^ k % 2 = 1)
/-- what bits tell -/
def fAt (b : Int) : Int := b / 2 ^ 0 % 2 ^ 12
def fFirst (b : Int) : Int := b / 2 ^ 12 % 2 ^ 12
def fCnt (b : Int) : Int := b / 2 ^ 24 % 2 ^ 4 + 1
def fStep (b : Int) : Int := b / 2 ^ 28 % 2 ^ 4
def fRts (b : Int) : Int := b / 2 ^ 32 % 2 ^ 9
def fKind (b : Int) : Int := b / 2 ^ 41 % 2 ^ 4
def Tells (b : Int) : Prop := fStep b ≤ 8 ∧ (fStep b = 0 ∨ 9 ≤ fCnt b) ∧ (fFirst b + fCnt b) * 2 ^ (fStep b).toNat ≤ 4096
theorem fb (b : Int) : 0 ≤ fStep b ∧ fStep b ≤ 15 ∧ 1 ≤ fCnt b ∧ fCnt b ≤ 16 ∧ 0 ≤ fFirst b ∧ fFirst b ≤ 4095 := by
  unfold fStep fCnt fFirst; omega
theorem cpw {z s : Int} (h0 : 0 ≤ z) (h1 : z ≤ 10000000000000) (h2 : 0 ≤ s) (h3 : s ≤ 1000) : CPow z s := ⟨h2, by omega, by omega⟩
/-- the fields of a lawful marked word -/
def F5 (xs : List V) : Prop := ∃ (lo hi at' : Int) (r : Str) (kd : Int), xs = [.int lo, .int hi, .int at', .str r, .int kd] ∧ Bd lo hi ∧ (∃ s, Ex lo hi s) ∧ 0 ≤ at' ∧ at' ≤ 4095 ∧ 0 ≤ kd ∧ kd ≤ 15 ∧ r = rtx (hasR r) ∧ OneW r
def wl (a b c d e f : Int) : List Int := [a * 2 ^ 0, b * 2 ^ 12, c * 2 ^ 24, d * 2 ^ 28, e * 2 ^ 32, f * 2 ^ 41]
def wbits (lo hi at' mr kd : Int) (s : Nat) : Int := (wl at' (lo / 2 ^ s) (Dd lo hi s + 1 - 1) s mr kd).sum
def BW (z : Int) : Prop := 0 ≤ z ∧ z ≤ 10000000000000
theorem six_at {K : PySem.W.Frag} {pA pF pC pS pR pK : Addr} {a b c d e f : Int} {i : Nat} {x1 y1 : V} (hi : i < 6) (hx : [V.ref pA, .ref pF, .ref pC, .ref pS, .ref pR, .ref pK][i]? = some x1) (hy : [V.int a, .int b, .int c, .int d, .int e, .int f][i]? = some y1)
    (sA : ∀ H, SqT K H pA [.int 0, .int 12]) (sF : ∀ H, SqT K H pF [.int 12, .int 12]) (sC : ∀ H, SqT K H pC [.int 24, .int 4]) (sS : ∀ H, SqT K H pS [.int 28, .int 4]) (sR : ∀ H, SqT K H pR [.int 32, .int 9]) (sK : ∀ H, SqT K H pK [.int 41, .int 4])
    (ba : BW a) (bb : BW b) (bc : BW c) (bd : BW d) (be : BW e) (bf : BW f) :
    ∃ (p : Addr) (lo mn : Nat) (z : Int), x1 = .ref p ∧ (∀ H, SqT K H p [.int lo, .int mn]) ∧ lo ≤ 100 ∧ y1 = .int z ∧ BW z ∧ (wl a b c d e f).take (i + 1) = (wl a b c d e f).take i ++ [z * 2 ^ lo] := by
  have six : i = 0 ∨ i = 1 ∨ i = 2 ∨ i = 3 ∨ i = 4 ∨ i = 5 := by omega
  rcases six with h | h | h | h | h | h <;> subst h
  · exact ⟨pA, 0, 12, a, (Option.some.inj hx).symm, sA, by decide, (Option.some.inj hy).symm, ba, rfl⟩
  · exact ⟨pF, 12, 12, b, (Option.some.inj hx).symm, sF, by decide, (Option.some.inj hy).symm, bb, rfl⟩
  · exact ⟨pC, 24, 4, c, (Option.some.inj hx).symm, sC, by decide, (Option.some.inj hy).symm, bc, rfl⟩
  · exact ⟨pS, 28, 4, d, (Option.some.inj hx).symm, sS, by decide, (Option.some.inj hy).symm, bd, rfl⟩
  · exact ⟨pR, 32, 9, e, (Option.some.inj hx).symm, sR, by decide, (Option.some.inj hy).symm, be, rfl⟩
  · exact ⟨pK, 41, 4, f, (Option.some.inj hx).symm, sK, by decide, (Option.some.inj hy).symm, bf, rfl⟩
theorem mask_b (p : Nat → Bool) : ∀ i, i ≤ 9 → 0 ≤ (mask p i).sum ∧ (mask p i).sum < 2 ^ i
  | 0, _ => by unfold mask; simp
  | i + 1, h => by
    have ih := mask_b p i (by omega)
    rw [mask_succ, List.sum_append]
    have e : (2 : Int) ^ (i + 1) = 2 * 2 ^ i := by rw [Int.pow_succ]; omega
    rw [e]
    by_cases c : p i = true
    · simp only [if_pos c, List.sum_cons, List.sum_nil]; omega
    · simp only [if_neg c, List.sum_nil]; omega
theorem maskOf_b (r : Str) : 0 ≤ maskOf r ∧ maskOf r < 512 := by
  have := mask_b (hasR r) 9 (Nat.le_refl _)
  unfold maskOf; omega
instance (b : Int) : Decidable (Tells b) := by unfold Tells; infer_instance

/-! ### bits and fields there and back -/
theorem wb_eq (lo hi at' mr kd : Int) (s : Nat) : wbits lo hi at' mr kd s = at' + lo / 2 ^ s * 4096 + Dd lo hi s * 16777216 + (s : Int) * 268435456 + mr * 4294967296 + kd * 2199023255552 := by
  unfold wbits wl
  simp only [List.sum_cons, List.sum_nil]
  omega
theorem bits6 {a F D s m k : Int} (a0 : 0 ≤ a) (a1 : a ≤ 4095) (F0 : 0 ≤ F) (F1 : F ≤ 4095) (D0 : 0 ≤ D) (D1 : D ≤ 15) (s0 : 0 ≤ s) (s1 : s ≤ 8) (m0 : 0 ≤ m) (m1 : m < 512) (k0 : 0 ≤ k) (k1 : k ≤ 15) :
    fStep (a + F * 4096 + D * 16777216 + s * 268435456 + m * 4294967296 + k * 2199023255552) = s ∧ fFirst (a + F * 4096 + D * 16777216 + s * 268435456 + m * 4294967296 + k * 2199023255552) = F ∧ fCnt (a + F * 4096 + D * 16777216 + s * 268435456 + m * 4294967296 + k * 2199023255552) = D + 1 ∧
    fAt (a + F * 4096 + D * 16777216 + s * 268435456 + m * 4294967296 + k * 2199023255552) = a ∧ fRts (a + F * 4096 + D * 16777216 + s * 268435456 + m * 4294967296 + k * 2199023255552) = m ∧ fKind (a + F * 4096 + D * 16777216 + s * 268435456 + m * 4294967296 + k * 2199023255552) = k := by
  unfold fStep fFirst fCnt fAt fRts fKind
  rw [show (2 : Int) ^ 0 = 1 by decide, show (2 : Int) ^ 4 = 16 by decide, show (2 : Int) ^ 9 = 512 by decide, show (2 : Int) ^ 12 = 4096 by decide, show (2 : Int) ^ 24 = 16777216 by decide, show (2 : Int) ^ 28 = 268435456 by decide, show (2 : Int) ^ 32 = 4294967296 by decide, show (2 : Int) ^ 41 = 2199023255552 by decide]
  generalize hb : a + F * 4096 + D * 16777216 + s * 268435456 + m * 4294967296 + k * 2199023255552 = b
  have q1 : b / 4096 = F + 4096 * (D + 16 * (s + 16 * (m + 512 * k))) := by omega
  have q2 : b / 16777216 = D + 16 * (s + 16 * (m + 512 * k)) := by omega
  have q3 : b / 268435456 = s + 16 * (m + 512 * k) := by omega
  have q4 : b / 4294967296 = m + 512 * k := by omega
  have q5 : b / 2199023255552 = k := by omega
  rw [q1, q2, q3, q4, q5]
  refine ⟨?_, ?_, ?_, ?_, ?_, ?_⟩ <;> omega
theorem wb_dec {lo hi at' mr kd : Int} {s : Nat} (b : Bd lo hi) (e : Ex lo hi s) (a0 : 0 ≤ at') (a1 : at' ≤ 4095) (m0 : 0 ≤ mr) (m1 : mr < 512) (k0 : 0 ≤ kd) (k1 : kd ≤ 15) :
    0 ≤ wbits lo hi at' mr kd s ∧ Tells (wbits lo hi at' mr kd s) ∧ fFirst (wbits lo hi at' mr kd s) * 2 ^ (fStep (wbits lo hi at' mr kd s)).toNat = lo ∧ (fFirst (wbits lo hi at' mr kd s) + fCnt (wbits lo hi at' mr kd s)) * 2 ^ (fStep (wbits lo hi at' mr kd s)).toNat = hi ∧
    fAt (wbits lo hi at' mr kd s) = at' ∧ fRts (wbits lo hi at' mr kd s) = mr ∧ fKind (wbits lo hi at' mr kd s) = kd := by
  obtain ⟨⟨s8, e1, e2⟩, e3, e4⟩ := e
  obtain ⟨b1, b2, b3⟩ := b
  have dl := div_le' (s := s) b1
  have d0 : 0 ≤ Dd lo hi s := by
    unfold Dd
    have := Int.ediv_le_ediv (pow_pos2 s) (show lo ≤ hi - 1 by omega)
    omega
  have fo := first_over lo hi s
  have h9 : s = 0 ∨ 9 ≤ Dd lo hi s + 1 := by
    rcases Nat.eq_zero_or_pos s with c | c
    · exact .inl c
    · right
      have := e2 (s - 1) (by omega)
      clear e2 fo
      unfold Dd at *
      rcases le8 s8 with e | e | e | e | e | e | e | e | e <;> subst e <;> first | omega | (simp at *; omega)
  have ed : Dd lo hi s + 1 = (hi - 1) / 2 ^ s + 1 - lo / 2 ^ s := by omega
  rw [wb_eq]
  have eF : lo / 2 ^ s ≤ 4095 := by omega
  generalize hF : lo / 2 ^ s = F at *
  generalize hD : Dd lo hi s = D at *
  have s0 : (0 : Int) ≤ (s : Int) ∧ (s : Int) ≤ 8 := by omega
  have F0 : 0 ≤ F := dl.1
  obtain ⟨x1, x2, x3, x4, x5, x6⟩ := bits6 (a := at') (F := F) (D := D) (s := (s : Int)) (m := mr) (k := kd) a0 a1 F0 eF d0 e1 s0.1 s0.2 m0 m1 k0 k1
  have e5 : (F + (D + 1)) * 2 ^ s = hi := by rw [fo]; exact e4
  refine ⟨by omega, ⟨?_, ?_, ?_⟩, ?_, ?_, x4, x5, x6⟩
  · rw [x1]; omega
  · rw [x1, x3]; omega
  · rw [x1, x2, x3]
    show (F + (D + 1)) * 2 ^ s ≤ 4096
    rw [e5]; exact b3
  · rw [x1, x2]; exact e3
  · rw [x1, x2, x3]; exact e5
theorem R_ok : Str.ofString "r" = rtx (hasR (Str.ofString "r")) := by decide +kernel
theorem R_one : OneW (Str.ofString "r") := by unfold OneW; decide +kernel
theorem R_rtx : rtx (bitp (maskOf (Str.ofString "r"))) = Str.ofString "r" := by decide +kernel
theorem dp5 {K : PySem.W.Frag} {H : Hp} {p : Addr} {a b c d : Int} {r : Str} (h : H p = some (.tup [.int a, .int b, .int c, .str r, .int d])) : Dp K H (.ref p) (.tuple [.int a, .int b, .int c, .str r, .int d]) :=
  .tup (.of h) (.cons (.int a) (.cons (.int b) (.cons (.int c) (.cons (.str r) (.cons (.int d) .nil)))))
theorem d5_sh (a b c d : Int) (r : Str) (h : PyData.canLay0 (.str r) = true) : SeqAt.shaped (.tuple [.int a, .int b, .int c, .str r, .int d]) = true := by
  have e : PyData.canLay0 (.tuple [.int a, .int b, .int c, .str r, .int d]) = true := by
    simp only [PyData.canLay0, PyData.canLayAll0, Bool.true_and, Bool.and_true] at *
    exact h
  unfold SeqAt.shaped
  rw [e]
  simp [PyData.depth, PyData.depthAll]
theorem d5_refl (a b c d : Int) (r : Str) : PyData.eqv (.tuple [.int a, .int b, .int c, .str r, .int d]) (.tuple [.int a, .int b, .int c, .str r, .int d]) = true := by
  simp [PyData.eqv, PyData.eqvAll]

theorem mt_lcountB {X : Cx} : MtR X "list.count" (fun x xs H Q => ∃ (p : Addr) (bs : List Bool), x = .ref p ∧ xs = [.bl true] ∧ SqL X.K H p (bs.map V.bl) ∧ Q (.int ((bs.filter id).length : Nat)) H) := by
  intro pins s σ H x xs v us Q I rx rxs h
  obtain ⟨p, bs, rfl, rfl, hs, q⟩ := h
  cases rx
  obtain ⟨u, rfl, ru⟩ := rxs.one
  obtain rfl : u = Value.bool true := ru
  obtain ⟨its, rv, ⟨⟨cls, dd, data, sl⟩, n, ho, hc, hdn, hd⟩, hlen⟩ := I.list hs
  simp only at hc hd
  subst hc hd
  have hb := Vals.bls rv
  subst hb
  refine call_meets PySem.F.slot_list_count ⟨_, ho, rfl⟩ PySem.F.entry_list_count (PySem.F.args_list_count_2 _ _)
    (SeqAt.list_countAt p (bs.map Value.bool).toArray n dd sl (.bool true) (eqU (.bl true))) ⟨ho, fun y hy => mem_eqAt (x := .bl true) rfl rfl rv (by simp [flatV]) y (by simpa using hy), ?_⟩
  have ec : (bs.map Value.bool).toArray.toList.countP (eqU (.bl true)) = (bs.filter id).length := by
    show (bs.map Value.bool).countP (eqU (.bl true)) = _
    rw [List.countP_map, List.countP_eq_length_filter]
    congr 1
    refine List.filter_congr fun b _ => ?_
    cases b <;> rfl
  refine ⟨.int ((bs.filter id).length : Nat), H, I.tok _, ⟨s.toks, ?_⟩, q⟩
  show Value.int (((bs.map Value.bool).toArray.toList.countP (eqU (.bl true)) : Nat) : Int) s.toks = _
  rw [ec]
/-- bits that a marked word may have -/
def Law (b : Int) : Prop := Tells b ∧ OneW (rtx (bitp (fRts b)))
def W45 (b : Int) : Prop := 0 ≤ b ∧ b < 35184372088832

theorem bit_lift (b : Int) {i : Nat} (h : i < 9) : b / 2 ^ (32 + i) % 2 = fRts b / 2 ^ i % 2 := by
  unfold fRts
  rw [show (2 : Int) ^ 32 = 4294967296 by decide, show (2 : Int) ^ 9 = 512 by decide]
  rcases le8 (show i ≤ 8 by omega) with e | e | e | e | e | e | e | e | e <;> subst e
  · rw [show (2 : Int) ^ (32 + 0) = 4294967296 by decide, show (2 : Int) ^ 0 = 1 by decide]; omega
  · rw [show (2 : Int) ^ (32 + 1) = 8589934592 by decide, show (2 : Int) ^ 1 = 2 by decide]; omega
  · rw [show (2 : Int) ^ (32 + 2) = 17179869184 by decide, show (2 : Int) ^ 2 = 4 by decide]; omega
  · rw [show (2 : Int) ^ (32 + 3) = 34359738368 by decide, show (2 : Int) ^ 3 = 8 by decide]; omega
  · rw [show (2 : Int) ^ (32 + 4) = 68719476736 by decide, show (2 : Int) ^ 4 = 16 by decide]; omega
  · rw [show (2 : Int) ^ (32 + 5) = 137438953472 by decide, show (2 : Int) ^ 5 = 32 by decide]; omega
  · rw [show (2 : Int) ^ (32 + 6) = 274877906944 by decide, show (2 : Int) ^ 6 = 64 by decide]; omega
  · rw [show (2 : Int) ^ (32 + 7) = 549755813888 by decide, show (2 : Int) ^ 7 = 128 by decide]; omega
  · rw [show (2 : Int) ^ (32 + 8) = 1099511627776 by decide, show (2 : Int) ^ 8 = 256 by decide]; omega

theorem rtx_len (p : Nat → Bool) : (rtx p).cps.size ≤ 9 := by
  have e : (rtx p).cps.size = (rtx p).cps.toList.length := by simp
  rw [e, rtx_codes, List.length_map]
  exact Nat.le_trans (List.length_filter_le _ _) (by decide)
theorem code_ok : ∀ k, k < 9 → PyData.canLay0 (.str (one (code k))) = true := by decide +kernel
theorem rtx_ok (p : Nat → Bool) {c : Nat} (h : c ∈ (rtx p).cps.toList) : PyData.canLay0 (.str (one c)) = true := by
  rw [rtx_codes] at h
  obtain ⟨k, hk, rfl⟩ := List.mem_map.mp h
  exact code_ok k (List.mem_range.mp (List.mem_filter.mp hk).1)
theorem strs_lay : ∀ {l : List Nat}, (∀ c ∈ l, PyData.canLay0 (.str (one c)) = true) → PyData.canLayAll0 (l.map fun c => .str (one c)) = true
  | [], _ => by simp [PyData.canLayAll0]
  | c :: l, h => by
    have ih := strs_lay (l := l) fun x hx => h x (List.mem_cons_of_mem _ hx)
    simp only [List.map_cons, PyData.canLayAll0, ih, h c (List.mem_cons_self ..), Bool.and_self]
theorem strs_depth : ∀ l : List Nat, PyData.depthAll (l.map fun c => .str (one c)) = 0
  | [] => by simp [PyData.depthAll]
  | c :: l => by simp only [List.map_cons, PyData.depthAll, PyData.depth, strs_depth l]; rfl
theorem strs_shape {l : List Nat} (h : ∀ c ∈ l, PyData.canLay0 (.str (one c)) = true) : SeqAt.shaped (.list (l.map fun c => .str (one c))) = true := by
  have e : PyData.canLay0 (.list (l.map fun c => .str (one c))) = true := by
    simp only [PyData.canLay0]; exact strs_lay h
  unfold SeqAt.shaped
  rw [e]
  simp only [PyData.depth, strs_depth]; rfl
theorem dp_strs {K : PySem.W.Frag} {H : Hp} : ∀ l : List Nat, DpAll K H (l.map fun c => V.str (one c)) (l.map fun c => .str (one c))
  | [] => .nil
  | c :: l => .cons (.str (one c)) (dp_strs l)
theorem strs_eqv (l : List Nat) : PyData.eqv (.list (l.map fun c => .str (one c))) (.list []) = l.isEmpty := by
  cases l with
  | nil => rfl
  | cons c l => simp [PyData.eqv, PyData.eqvAll]
theorem hasG_iff (r g : Str) : (!(r.cps.toList.filter fun c => decide (c ∈ g.cps.toList)).isEmpty) = hasG r g := by
  unfold hasG
  rw [Bool.eq_iff_iff, List.any_eq_true]
  constructor
  · intro h
    cases e : r.cps.toList.filter fun c => decide (c ∈ g.cps.toList) with
    | nil => rw [e] at h; cases h
    | cons c l =>
      have m : c ∈ r.cps.toList.filter fun c => decide (c ∈ g.cps.toList) := by rw [e]; exact List.mem_cons_self ..
      obtain ⟨m1, m2⟩ := List.mem_filter.mp m
      exact ⟨c, of_decide_eq_true m2, decide_eq_true m1⟩
  · rintro ⟨c, m1, m2⟩
    have m : c ∈ r.cps.toList.filter fun c => decide (c ∈ g.cps.toList) := List.mem_filter.mpr ⟨of_decide_eq_true m2, decide_eq_true m1⟩
    cases e : r.cps.toList.filter fun c => decide (c ∈ g.cps.toList) with
    | nil => rw [e] at m; cases m
    | cons c l => rfl

/-! ### words and their fields there and back -/
theorem tw_eqv {m n : Bool} {a b : Int} : PyData.eqv (.tuple [.bool m, .int a]) (.tuple [.bool n, .int b]) = true ↔ m = n ∧ a = b := by
  simp [PyData.eqv, PyData.eqvAll]
theorem tw_no {m : Bool} {a b : Int} (e : PyData.eqv (.tuple [.bool m, .int a]) (.tuple [.bool m, .int b]) = false) (h : a = b) : False := by
  rw [tw_eqv.mpr ⟨rfl, h⟩] at e; cases e
theorem dpw {K : PySem.W.Frag} {H : Hp} {p : Addr} {m : Bool} {a : Int} (h : H p = some (.tup [.bl m, .int a])) : Dp K H (.ref p) (.tuple [.bool m, .int a]) :=
  .tup (.of h) (.cons (.bl m) (.cons (.int a) .nil))
theorem d5_eqv {a b c d a' b' c' d' : Int} {r r' : Str} : PyData.eqv (.tuple [.int a, .int b, .int c, .str r, .int d]) (.tuple [.int a', .int b', .int c', .str r', .int d']) = true ↔ a = a' ∧ b = b' ∧ c = c' ∧ r = r' ∧ d = d' := by
  simp [PyData.eqv, PyData.eqvAll]
theorem d5_no {a b c d : Int} {r : Str} (e : PyData.eqv (.tuple [.int a, .int b, .int c, .str r, .int d]) (.tuple [.int a, .int b, .int c, .str r, .int d]) = false) : False := by
  rw [d5_refl] at e; cases e
theorem rtx_congr {p q : Nat → Bool} (h : ∀ k, k < 9 → p k = q k) : rtx p = rtx q := by
  unfold rtx rcs
  rw [List.filter_congr fun k hk => h k (List.mem_range.mp hk)]
theorem hasR_rtx (p : Nat → Bool) {k : Nat} (h : k < 9) : hasR (rtx p) k = p k := by
  unfold hasR
  rw [Bool.eq_iff_iff, decide_eq_true_iff]
  exact rtx_mem p h
theorem rtx_self (p : Nat → Bool) : rtx p = rtx (hasR (rtx p)) := rtx_congr fun k h => (hasR_rtx p h).symm
theorem mask_congr {p q : Nat → Bool} (h : ∀ k, k < 9 → p k = q k) : mask p 9 = mask q 9 := by
  unfold mask
  rw [List.filter_congr fun k hk => h k (List.mem_range.mp hk)]
theorem maskOf_rtx (p : Nat → Bool) : maskOf (rtx p) = (mask p 9).sum := by
  unfold maskOf
  rw [mask_congr fun k h => hasR_rtx p h]
theorem mask512 : ∀ m : Fin 512, (mask (bitp (m.val : Int)) 9).sum = (m.val : Int) := by decide +kernel
theorem mask_bitp {m : Int} (h0 : 0 ≤ m) (h1 : m < 512) : (mask (bitp m) 9).sum = m := by
  have h := mask512 ⟨m.toNat, by omega⟩
  have e : ((m.toNat : Nat) : Int) = m := by omega
  rw [e] at h
  exact h
theorem rtx_can (p : Nat → Bool) : PyData.canLay0 (.str (rtx p)) = true := by
  simp only [PyData.canLay0, PyData.strOk]
  rw [Array.all_eq_true_iff_forall_mem]
  intro c hc
  have h := rtx_ok p (c := c) (by simpa using hc)
  simp only [PyData.canLay0, PyData.strOk] at h
  simpa [one] using h
structure WF (b lo hi at' : Int) (p : Nat → Bool) (kd : Int) (s : Nat) : Prop where
  bd : Bd lo hi
  ex : Ex lo hi s
  a0 : 0 ≤ at'
  a1 : at' ≤ 4095
  k0 : 0 ≤ kd
  k1 : kd ≤ 15
  ow : OneW (rtx p)
  wb : wbits lo hi at' (maskOf (rtx p)) kd s = b
theorem WF.f5 {b lo hi at' kd : Int} {p : Nat → Bool} {s : Nat} (W : WF b lo hi at' p kd s) : F5 [.int lo, .int hi, .int at', .str (rtx p), .int kd] :=
  ⟨lo, hi, at', _, kd, rfl, W.bd, ⟨s, W.ex⟩, W.a0, W.a1, W.k0, W.k1, rtx_self p, W.ow⟩
theorem wf_of {b : Int} (w : W45 b) (L : Law b) : ∃ (lo hi at' : Int) (p : Nat → Bool) (kd : Int) (s : Nat), [V.int (fFirst b * 2 ^ (fStep b).toNat), .int ((fFirst b + fCnt b) * 2 ^ (fStep b).toNat), .int (fAt b), .str (rtx (bitp (fRts b))), .int (fKind b)] = [.int lo, .int hi, .int at', .str (rtx p), .int kd] ∧ WF b lo hi at' p kd s := by
  obtain ⟨⟨t1, t2, t3⟩, ow⟩ := L
  obtain ⟨w0, w1⟩ := w
  have f := fb b
  have r0 : 0 ≤ fRts b := Int.emod_nonneg _ (by decide)
  have r1 : fRts b < 512 := Int.emod_lt_of_pos _ (by decide)
  have a0 : 0 ≤ fAt b := Int.emod_nonneg _ (by decide)
  have a1 : fAt b < 4096 := Int.emod_lt_of_pos _ (by decide)
  have k0 : 0 ≤ fKind b := Int.emod_nonneg _ (by decide)
  have k1 : fKind b < 16 := Int.emod_lt_of_pos _ (by decide)
  have sum : b = fAt b + fFirst b * 4096 + (fCnt b - 1) * 16777216 + fStep b * 268435456 + fRts b * 4294967296 + fKind b * 2199023255552 := by
    clear t1 t2 t3 ow f r0 r1 a0 a1 k0 k1
    unfold fAt fFirst fCnt fStep fRts fKind
    rw [show (2 : Int) ^ 0 = 1 by decide, show (2 : Int) ^ 4 = 16 by decide, show (2 : Int) ^ 9 = 512 by decide, show (2 : Int) ^ 12 = 4096 by decide, show (2 : Int) ^ 24 = 16777216 by decide, show (2 : Int) ^ 28 = 268435456 by decide, show (2 : Int) ^ 32 = 4294967296 by decide, show (2 : Int) ^ 41 = 2199023255552 by decide]
    omega
  obtain ⟨s, es⟩ : ∃ s : Nat, fStep b = (s : Int) := ⟨(fStep b).toNat, by omega⟩
  rw [es] at t1 t2 t3 sum ⊢
  have e1 : ((s : Int)).toNat = s := rfl
  rw [e1] at t3 ⊢
  generalize fFirst b = F at *
  generalize fCnt b = C at *
  have s8 : s ≤ 8 := by omega
  have core : Bd (F * 2 ^ s) ((F + C) * 2 ^ s) ∧ Ex (F * 2 ^ s) ((F + C) * 2 ^ s) s ∧ F * 2 ^ s / 2 ^ s = F ∧ Dd (F * 2 ^ s) ((F + C) * 2 ^ s) s + 1 = C := by
    have c9 : s = 0 ∨ 9 ≤ C := by omega
    clear sum es t2
    unfold Ex StepIs Dd Bd
    refine ⟨?_, ⟨⟨s8, ?_, fun t ht => ?_⟩, ?_, ?_⟩, ?_, ?_⟩
    · rcases le8 s8 with e | e | e | e | e | e | e | e | e <;> subst e <;> omega
    · rcases le8 s8 with e | e | e | e | e | e | e | e | e <;> subst e <;> omega
    · have t8 : t ≤ 8 := by omega
      rcases le8 s8 with e | e | e | e | e | e | e | e | e <;> subst e <;> rcases le8 t8 with e | e | e | e | e | e | e | e | e <;> subst e <;> first | omega | (simp at *; omega)
    all_goals (rcases le8 s8 with e | e | e | e | e | e | e | e | e <;> subst e <;> omega)
  refine ⟨_, _, _, bitp (fRts b), _, s, rfl, ⟨core.1, core.2.1, a0, by omega, k0, by omega, ow, ?_⟩⟩
  rw [wb_eq, core.2.2.1, maskOf_rtx, mask_bitp r0 r1]
  have := core.2.2.2
  omega
/-- one right less -/
def lessp (p : Nat → Bool) (i : Nat) : Nat → Bool := fun k => p k && decide (k ≠ i)
theorem less_mask (p : Nat → Bool) (i : Nat) (hp : p i = true) : ∀ n, (mask p n).sum = (mask (lessp p i) n).sum + (if i < n then (2 : Int) ^ i else 0)
  | 0 => by unfold mask; simp
  | n + 1 => by
    have ih := less_mask p i hp n
    rw [mask_succ, mask_succ, List.sum_append, List.sum_append, ih]
    unfold lessp
    rcases Nat.lt_trichotomy i n with c | c | c
    · have h1 : decide (n ≠ i) = true := decide_eq_true (by omega)
      rw [h1, Bool.and_true, if_pos c, if_pos (show i < n + 1 by omega)]
      omega
    · subst c
      have h1 : decide (i ≠ i) = false := decide_eq_false (by simp)
      rw [h1, Bool.and_false, if_pos hp, if_neg (Nat.lt_irrefl i), if_neg Bool.false_ne_true, if_pos (Nat.lt_succ_self i)]
      simp
    · have h1 : decide (n ≠ i) = true := decide_eq_true (by omega)
      rw [h1, Bool.and_true, if_neg (show ¬ i < n by omega), if_neg (show ¬ i < n + 1 by omega)]
      omega
theorem less_codes (p : Nat → Bool) {i : Nat} (hi : i < 9) : (((rtx p).cps.toList.filter fun c => !decide (V.str (one c) = V.str (one (code i)))).map one) = rcs (lessp p i) 9 := by
  rw [rtx_codes]
  unfold rcs lessp
  rw [List.filter_map, List.map_map, ← List.filter_filter]
  congr 1
  rw [List.filter_filter, List.filter_filter]
  refine List.filter_congr fun k hk => ?_
  have hk9 := List.mem_range.mp hk
  have e : decide (V.str (one (code k)) = V.str (one (code i))) = decide (k = i) := by
    rw [decide_eq_decide]
    constructor
    · intro h
      have h2 := V.str.inj h
      have h3 : code k = code i := by
        have h4 := congrArg (fun x : Str => x.cps.toList) h2
        simpa [one] using h4
      exact code_inj k hk9 i hi h3
    · intro h; rw [h]
  simp only [Function.comp]
  rw [e]
  by_cases c : k = i
  · simp [c]
  · simp [c]
theorem less_one {p : Nat → Bool} {i : Nat} (h : OneW (rtx p)) : OneW (rtx (lessp p i)) := by
  unfold OneW at *
  refine Nat.le_trans ?_ h
  have key : ∀ l : List Str, (l.filter (hasG (rtx (lessp p i)))).length ≤ (l.filter (hasG (rtx p))).length := by
    intro l
    induction l with
    | nil => exact Nat.le_refl _
    | cons g l ih =>
      have mono : hasG (rtx (lessp p i)) g = true → hasG (rtx p) g = true := by
        unfold hasG
        rw [List.any_eq_true, List.any_eq_true]
        rintro ⟨c, c1, c2⟩
        refine ⟨c, c1, decide_eq_true ?_⟩
        have c3 := of_decide_eq_true c2
        rw [rtx_codes] at c3 ⊢
        obtain ⟨k, k1, k2⟩ := List.mem_map.mp c3
        obtain ⟨k3, k4⟩ := List.mem_filter.mp k1
        refine List.mem_map.mpr ⟨k, List.mem_filter.mpr ⟨k3, ?_⟩, k2⟩
        unfold lessp at k4
        exact (Bool.and_eq_true_iff.mp k4).1
      rw [List.filter_cons, List.filter_cons]
      by_cases c : hasG (rtx (lessp p i)) g = true
      · rw [if_pos c, if_pos (mono c)]
        simp only [List.length_cons]
        omega
      · rw [if_neg c]
        split
        · simp only [List.length_cons]; omega
        · exact ih
  exact key _
theorem least_in {lo hi il ih : Int} {t s : Nat} (b : Bd lo hi) (e : Ex lo hi t) (h1 : lo ≤ il) (h2 : il < ih) (h3 : ih ≤ hi) (g : StepIs il ih s) : lo ≤ il / 2 ^ s * 2 ^ s ∧ ((ih - 1) / 2 ^ s + 1) * 2 ^ s ≤ hi := by
  obtain ⟨⟨t8, e1, e2⟩, e3, e4⟩ := e
  obtain ⟨b1, b2, b3⟩ := b
  have st : s ≤ t := by
    rcases Nat.lt_or_ge t s with c | c
    · have := g.2.2 t c
      exfalso
      clear e2 g
      unfold Dd at *
      rcases le8 t8 with e | e | e | e | e | e | e | e | e <;> subst e <;> omega
    · exact c
  have s8 := g.1
  clear e2 g
  unfold Dd at *
  rcases le8 t8 with e | e | e | e | e | e | e | e | e <;> subst e <;> rcases le8 s8 with e | e | e | e | e | e | e | e | e <;> subst e <;> first | omega | (simp at *; omega)
theorem least_ex {il ih : Int} {s : Nat} (b : Bd il ih) (g : StepIs il ih s) : Bd (il / 2 ^ s * 2 ^ s) (((ih - 1) / 2 ^ s + 1) * 2 ^ s) ∧ Ex (il / 2 ^ s * 2 ^ s) (((ih - 1) / 2 ^ s + 1) * 2 ^ s) s ∧ il / 2 ^ s * 2 ^ s ≤ il ∧ ih ≤ ((ih - 1) / 2 ^ s + 1) * 2 ^ s ∧ il / 2 ^ s * 2 ^ s / 2 ^ s = il / 2 ^ s ∧ Dd (il / 2 ^ s * 2 ^ s) (((ih - 1) / 2 ^ s + 1) * 2 ^ s) s = Dd il ih s := by
  obtain ⟨b1, b2, b3⟩ := b
  have s8 := g.1
  have g1 := g.2.1
  have g2 := g.2.2
  refine ⟨?_, ⟨⟨s8, ?_, fun t ht => ?_⟩, ?_, ?_⟩, ?_, ?_, ?_, ?_⟩
  · unfold Bd
    rcases le8 s8 with e | e | e | e | e | e | e | e | e <;> subst e <;> omega
  · unfold Dd at *
    clear g2 g
    rcases le8 s8 with e | e | e | e | e | e | e | e | e <;> subst e <;> omega
  · have g3 := g2 t ht
    have t8 : t ≤ 8 := by omega
    clear g2 g
    unfold Dd at *
    rcases le8 s8 with e | e | e | e | e | e | e | e | e <;> subst e <;> rcases le8 t8 with e | e | e | e | e | e | e | e | e <;> subst e <;> first | omega | (simp at *; omega)
  all_goals (clear g2 g; unfold Dd at *; rcases le8 s8 with e | e | e | e | e | e | e | e | e <;> subst e <;> omega)
theorem bc4 {lo hi : Int} {s : Nat} (b : Bd lo hi) (h : s ≤ 8) : CPow ((hi - 1) / 2 ^ s + 1) (s : Int) := by
  obtain ⟨b1, b2, b3⟩ := b
  have := div_le' (s := s) (x := hi - 1) (by omega)
  exact ⟨by omega, by omega, na (by omega) (by omega)⟩

/-! ### what is drawn: heaps -/
theorem seqT' {K : PySem.W.Frag} {H H' : Hp} {a : Addr} {xs : List V} (e : Same H H') (h : SqT K H a xs) : SqT K H' a xs := by
  rcases h with (h | ⟨o, h⟩) | h
  · exact .inl (.inl (e _ _ h))
  · exact .inl (.inr ⟨o, e _ _ h⟩)
  · exact .inr h
theorem Pool.same {H H' : Hp} {p : Addr} {x y : Int} (h : Pool H p x y) (s : Same H H') : Pool H' p x y := ⟨s _ _ h.1, h.2⟩
theorem But.free {H H' : Hp} {a q : Addr} {x y : Int} (b : But a H H') (P : Pool H' a x y) (n : H' q = none) : H q = none := by
  cases e : H q with
  | none => rfl
  | some o =>
    by_cases c : q = a
    · subst c; rw [P.1] at n; cases n
    · rw [b q o c e] at n; cases n
local macro_rules | `(tactic| walk_at "but") => `(tactic| first | assumption | exact But.refl _ _ | (refine But.trans ?_ (by assumption); walk_at "but") | (refine But.trans ?_ (But.of (by assumption)); walk_at "but") | (refine But.new ?_ (by assumption); walk_at "but") | (refine But.upd ?_; walk_at "but"))
local macro_rules | `(tactic| walk_at "same") => `(tactic| first | assumption | exact Same.refl _ | (refine Same.trans ?_ (by assumption); walk_at "same") | (refine sameN ?_ (by assumption); walk_at "same"))
/-! ### words as they lie in memory -/
def tup5 (b : Int) : List V := [.int (fFirst b * 2 ^ (fStep b).toNat), .int ((fFirst b + fCnt b) * 2 ^ (fStep b).toNat), .int (fAt b), .str (rtx (bitp (fRts b))), .int (fKind b)]
structure Wd (H : Hp) (q : Addr) (m : Bool) (b : Int) : Prop where
  at' : H q = some (.tup [.bl m, .int b])
  w : W45 b
  law : m = true → Law b
theorem Wd.same {H H' : Hp} {q : Addr} {m : Bool} {b : Int} (h : Wd H q m b) (s : Same H H') : Wd H' q m b := ⟨s _ _ h.at', h.w, h.law⟩
theorem Wd.ne {H : Hp} {q a : Addr} {m : Bool} {b x y : Int} (h : Wd H q m b) (P : Pool H a x y) : q ≠ a := by
  intro e; subst e
  have := h.at'
  rw [P.1] at this; cases this
theorem Wd.but {H H' : Hp} {q a : Addr} {m : Bool} {b : Int} (h : Wd H q m b) (s : But a H H') (n : q ≠ a) : Wd H' q m b := ⟨s _ _ n h.at', h.w, h.law⟩
theorem sum_ite (c : Bool) (z : Int) : (if c = true then [z] else []).sum = if c = true then z else 0 := by cases c <;> simp
theorem mask_val (p : Nat → Bool) : (mask p 9).sum = (if p 0 = true then 1 else 0) + (if p 1 = true then 2 else 0) + (if p 2 = true then 4 else 0) + (if p 3 = true then 8 else 0) + (if p 4 = true then 16 else 0) + (if p 5 = true then 32 else 0) + (if p 6 = true then 64 else 0) + (if p 7 = true then 128 else 0) + (if p 8 = true then 256 else 0) := by
  have e0 : (mask p 0).sum = 0 := by unfold mask; simp
  simp only [mask_succ, List.sum_append, sum_ite, e0]
  simp
theorem bit01 (c : Bool) (z : Int) : ∃ x : Int, (0 ≤ x ∧ x ≤ 1) ∧ (if c = true then z else 0) = z * x ∧ c = decide (x = 1) := by
  cases c
  · exact ⟨0, by omega, by simp, by decide⟩
  · exact ⟨1, by omega, by simp, by decide⟩
theorem bitp_mask (p : Nat → Bool) {k : Nat} (h : k < 9) : bitp ((mask p 9).sum) k = p k := by
  unfold bitp
  rw [mask_val]
  obtain ⟨x0, b0, e0, d0⟩ := bit01 (p 0) 1
  obtain ⟨x1, b1, e1, d1⟩ := bit01 (p 1) 2
  obtain ⟨x2, b2, e2, d2⟩ := bit01 (p 2) 4
  obtain ⟨x3, b3, e3, d3⟩ := bit01 (p 3) 8
  obtain ⟨x4, b4, e4, d4⟩ := bit01 (p 4) 16
  obtain ⟨x5, b5, e5, d5⟩ := bit01 (p 5) 32
  obtain ⟨x6, b6, e6, d6⟩ := bit01 (p 6) 64
  obtain ⟨x7, b7, e7, d7⟩ := bit01 (p 7) 128
  obtain ⟨x8, b8, e8, d8⟩ := bit01 (p 8) 256
  rw [e0, e1, e2, e3, e4, e5, e6, e7, e8]
  rcases le8 (show k ≤ 8 by omega) with e | e | e | e | e | e | e | e | e <;> subst e
  · rw [d0, decide_eq_decide]; omega
  · rw [d1, decide_eq_decide]; omega
  · rw [d2, decide_eq_decide]; omega
  · rw [d3, decide_eq_decide]; omega
  · rw [d4, decide_eq_decide]; omega
  · rw [d5, decide_eq_decide]; omega
  · rw [d6, decide_eq_decide]; omega
  · rw [d7, decide_eq_decide]; omega
  · rw [d8, decide_eq_decide]; omega
theorem WF.all {b lo hi at' kd : Int} {p : Nat → Bool} {s : Nat} (W : WF b lo hi at' p kd s) : W45 b ∧ Law b ∧ tup5 b = [.int lo, .int hi, .int at', .str (rtx p), .int kd] ∧ fKind b = kd ∧ fAt b = at' ∧ fRts b = (mask p 9).sum := by
  have mb := maskOf_b (rtx p)
  have D := wb_dec W.bd W.ex W.a0 W.a1 mb.1 mb.2 W.k0 W.k1
  have e := wb_eq lo hi at' (maskOf (rtx p)) kd s
  rw [W.wb] at D e
  obtain ⟨d0, t, e1, e2, e3, e4, e5⟩ := D
  have er : rtx (bitp (fRts b)) = rtx p := by
    rw [e4, maskOf_rtx]
    exact rtx_congr fun k h => bitp_mask p h
  have x := W.ex
  obtain ⟨⟨s8, x1, x2⟩, x3, x4⟩ := x
  obtain ⟨b1, b2, b3⟩ := W.bd
  have dl := div_le' (s := s) b1
  have w := W.a1
  have k := W.k1
  refine ⟨⟨d0, ?_⟩, ⟨t, ?_⟩, ?_, e5, e3, by rw [e4, maskOf_rtx]⟩
  · clear x2 x3 x4 t e1 e2 e3 e4 e5 er
    have : lo / 2 ^ s ≤ 4095 := by omega
    omega
  · rw [er]; exact W.ow
  · unfold tup5
    rw [e1, e2, e3, er, e5]
theorem rtx_inj {p q : Nat → Bool} (h : rtx p = rtx q) {k : Nat} (hk : k < 9) : p k = q k := by
  rw [← hasR_rtx p hk, ← hasR_rtx q hk, h]
theorem ow_sub {p q : Nat → Bool} (h : ∀ k, k < 9 → q k = true → p k = true) (o : OneW (rtx p)) : OneW (rtx q) := by
  unfold OneW at *
  refine Nat.le_trans ?_ o
  have key : ∀ l : List Str, (l.filter (hasG (rtx q))).length ≤ (l.filter (hasG (rtx p))).length := by
    intro l
    induction l with
    | nil => exact Nat.le_refl _
    | cons g l ih =>
      have mono : hasG (rtx q) g = true → hasG (rtx p) g = true := by
        unfold hasG
        rw [List.any_eq_true, List.any_eq_true]
        rintro ⟨c, c1, c2⟩
        refine ⟨c, c1, decide_eq_true ?_⟩
        have c3 := of_decide_eq_true c2
        rw [rtx_codes] at c3 ⊢
        obtain ⟨k, k1, k2⟩ := List.mem_map.mp c3
        obtain ⟨k3, k4⟩ := List.mem_filter.mp k1
        exact List.mem_map.mpr ⟨k, List.mem_filter.mpr ⟨k3, h k (List.mem_range.mp k3) k4⟩, k2⟩
      rw [List.filter_cons, List.filter_cons]
      by_cases c : hasG (rtx q) g = true
      · rw [if_pos c, if_pos (mono c)]
        simp only [List.length_cons]
        omega
      · rw [if_neg c]
        split
        · simp only [List.length_cons]; omega
        · exact ih
  exact key _
/-- the rights to cells and f alone go together -/
theorem ow_low {p : Nat → Bool} (h : ∀ k, k < 9 → 6 ≤ k → p k = false) : OneW (rtx p) := by
  have e : OneW (rtx fun k => decide (k < 6)) := by unfold OneW; decide +kernel
  refine ow_sub (fun k hk hp => ?_) e
  rcases Nat.lt_or_ge k 6 with c | c
  · exact decide_eq_true c
  · rw [h k hk c] at hp; cases hp
/-- a text of rights that is good -/
def RV (v : V) : Prop := ∃ p, v = .str (rtx p) ∧ OneW (rtx p)
theorem rv {s : Str} (h : s = rtx (hasR s)) (o : OneW s) : RV (.str s) := ⟨hasR s, congrArg V.str h, h ▸ o⟩
theorem rvd {s : Str} (h : (decide (s = rtx (hasR s)) && decide (([G0, G1, G2].filter (hasG s)).length ≤ 1)) = true) : RV (.str s) := by
  rw [Bool.and_eq_true] at h
  exact rv (of_decide_eq_true h.1) (of_decide_eq_true (p := ([G0, G1, G2].filter (hasG s)).length ≤ 1) h.2)
/-- one word within another -/
def Within (b c : Int) : Prop := fFirst c * 2 ^ (fStep c).toNat ≤ fFirst b * 2 ^ (fStep b).toNat ∧ (fFirst b + fCnt b) * 2 ^ (fStep b).toNat ≤ (fFirst c + fCnt c) * 2 ^ (fStep c).toNat ∧ (∀ k, k < 9 → bitp (fRts b) k = true → bitp (fRts c) k = true) ∧ (fKind b = fKind c ∨ (fKind c = 0 ∧ fKind b ≠ 2))
theorem Within.refl (b : Int) : Within b b := ⟨Int.le_refl _, Int.le_refl _, fun _ _ h => h, .inl rfl⟩
theorem sub_iff {p q : Nat → Bool} : (∀ c ∈ (rtx p).cps.toList, c ∈ (rtx q).cps.toList) ↔ ∀ k, k < 9 → p k = true → q k = true := by
  constructor
  · intro h k hk hp
    exact (rtx_mem q hk).mp (h _ ((rtx_mem p hk).mpr hp))
  · intro h c hc
    rw [rtx_codes] at hc
    obtain ⟨k, hk, rfl⟩ := List.mem_map.mp hc
    obtain ⟨k1, k2⟩ := List.mem_filter.mp hk
    have k9 := List.mem_range.mp k1
    exact (rtx_mem q k9).mpr (h k k9 k2)
theorem WF.uniq {b lo hi at' kd lo' hi' a' kd' : Int} {p p' : Nat → Bool} {s s' : Nat} (W : WF b lo hi at' p kd s) (W' : WF b lo' hi' a' p' kd' s') : lo = lo' ∧ hi = hi' ∧ at' = a' ∧ rtx p = rtx p' ∧ kd = kd' ∧ s = s' := by
  have e := W.all.2.2.1.symm.trans W'.all.2.2.1
  injection e with g1 e
  injection e with g2 e
  injection e with g3 e
  injection e with g4 e
  injection e with g5 _
  have h1 := V.int.inj g1
  have h2 := V.int.inj g2
  refine ⟨h1, h2, V.int.inj g3, V.str.inj g4, V.int.inj g5, ?_⟩
  have x := W.ex.1
  rw [h1, h2] at x
  exact x.uniq W'.ex.1
theorem WF.within {b c lo hi at' kd lo' hi' a' kd' : Int} {p p' : Nat → Bool} {s s' : Nat} (W : WF b lo hi at' p kd s) (W' : WF c lo' hi' a' p' kd' s') : Within b c ↔ lo' ≤ lo ∧ hi ≤ hi' ∧ (∀ k, k < 9 → p k = true → p' k = true) ∧ (kd = kd' ∨ (kd' = 0 ∧ kd ≠ 2)) := by
  have e := W.all.2.2.1
  have e' := W'.all.2.2.1
  unfold tup5 at e e'
  injection e with g1 e
  injection e with g2 e
  injection e with g3 e
  injection e with g4 e
  injection e with g5 _
  injection e' with h1 e'
  injection e' with h2 e'
  injection e' with h3 e'
  injection e' with h4 e'
  injection e' with h5 _
  unfold Within
  rw [V.int.inj g1, V.int.inj g2, V.int.inj g5, V.int.inj h1, V.int.inj h2, V.int.inj h5]
  have r1 : ∀ k, k < 9 → bitp (fRts b) k = p k := fun k hk => rtx_inj (V.str.inj g4) hk
  have r2 : ∀ k, k < 9 → bitp (fRts c) k = p' k := fun k hk => rtx_inj (V.str.inj h4) hk
  constructor
  · rintro ⟨a1, a2, a3, a4⟩
    exact ⟨a1, a2, fun k hk hp => by rw [← r2 k hk]; exact a3 k hk (by rw [r1 k hk]; exact hp), a4⟩
  · rintro ⟨a1, a2, a3, a4⟩
    exact ⟨a1, a2, fun k hk hp => by rw [r2 k hk]; exact a3 k hk (by rw [← r1 k hk]; exact hp), a4⟩
def andp (p q : Nat → Bool) : Nat → Bool := fun k => p k && q k
theorem bitp_nat (n k : Nat) : bitp (n : Int) k = n.testBit k := by
  unfold bitp
  rw [Nat.testBit_eq_decide_div_mod_eq, decide_eq_decide]
  have e : (n : Int) / 2 ^ k % 2 = ((n / 2 ^ k % 2 : Nat) : Int) := by
    rw [Int.natCast_emod, Int.natCast_ediv, Int.natCast_pow]; rfl
  rw [e]; omega
theorem mask_and (p q : Nat → Bool) : Builtin.bitAnd ((mask p 9).sum) ((mask q 9).sum) = (mask (andp p q) 9).sum := by
  have hp := mask_b p 9 (Nat.le_refl _)
  have hq := mask_b q 9 (Nat.le_refl _)
  rw [PyProof.Rows.bitAnd_pp hp.1 hq.1]
  have ep : (((mask p 9).sum.toNat : Nat) : Int) = (mask p 9).sum := by omega
  have eq : (((mask q 9).sum.toNat : Nat) : Int) = (mask q 9).sum := by omega
  have lt : (mask p 9).sum.toNat &&& (mask q 9).sum.toNat < 512 := Nat.lt_of_le_of_lt Nat.and_le_left (by omega)
  rw [← mask_bitp (m := (((mask p 9).sum.toNat &&& (mask q 9).sum.toNat : Nat) : Int)) (by omega) (by omega)]
  rw [mask_congr fun k hk => ?_]
  rw [bitp_nat, Nat.testBit_and, ← bitp_nat, ← bitp_nat, ep, eq, bitp_mask p hk, bitp_mask q hk]
  rfl
theorem WF.lohi {b lo hi at' kd : Int} {p : Nat → Bool} {s : Nat} (W : WF b lo hi at' p kd s) : fFirst b * 2 ^ (fStep b).toNat = lo ∧ (fFirst b + fCnt b) * 2 ^ (fStep b).toNat = hi := by
  have e := W.all.2.2.1
  unfold tup5 at e
  injection e with g1 e
  injection e with g2 e
  exact ⟨V.int.inj g1, V.int.inj g2⟩
theorem mask_sub (p q : Nat → Bool) : Builtin.bitAnd ((mask p 9).sum) ((mask q 9).sum) = (mask p 9).sum ↔ ∀ k, k < 9 → p k = true → q k = true := by
  rw [mask_and]
  constructor
  · intro h k hk hp
    have e : bitp ((mask (andp p q) 9).sum) k = bitp ((mask p 9).sum) k := by rw [h]
    rw [bitp_mask _ hk, bitp_mask _ hk, hp] at e
    unfold andp at e
    exact (Bool.and_eq_true_iff.mp e).2
  · intro h
    rw [mask_congr fun k hk => ?_]
    unfold andp
    cases e : p k
    · rfl
    · rw [h k hk e]; rfl

theorem made_eq {lo hi : Int} {s : Nat} (x : Ex lo hi s) : (hi - lo) / 2 ^ s - 1 = Dd lo hi s := by
  obtain ⟨h1, h2, h3⟩ := x
  have p := pow_pos2 s
  have e : hi - lo = ((hi - 1) / 2 ^ s + 1 - lo / 2 ^ s) * 2 ^ s := by
    rw [Int.sub_mul, h2, h3]
  rw [e, Int.mul_ediv_cancel _ (Int.ne_of_gt p)]
  unfold Dd; omega
theorem made_step {p : Nat → Bool} {j : Nat} {b z : Int} {c : Bool} (hc : c = p j) (h : b = z + (mask p j).sum * 4294967296) : b + (if c = true then (1 : Int) else 0) * 2 ^ (32 + (j : Int)).toNat = z + (mask p (j + 1)).sum * 4294967296 := by
  have e : (32 + (j : Int)).toNat = 32 + j := by omega
  rw [e, Int.pow_add, show (2 : Int) ^ 32 = 4294967296 by decide, mask_succ, List.sum_append, sum_ite, hc, h, Int.add_mul]
  cases p j with
  | false => simp
  | true =>
    rw [if_pos rfl, if_pos rfl, Int.one_mul]
    omega
theorem with_fin {A P G : Prop} (h : A → P) (k : (A → P) → G) : G := k h

theorem RL_get : ∀ k, k < 6 → (Str.ofString "rwlsnf").cps[k]? = some (code k) := by decide +kernel
theorem RL_size : (Str.ofString "rwlsnf").cps.size = 6 := by decide +kernel
theorem rcs_congr {p q : Nat → Bool} {i : Nat} (h : ∀ k, k < i → p k = q k) : rcs p i = rcs q i := by
  unfold rcs
  rw [List.filter_congr fun k hk => h k (List.mem_range.mp hk)]
def setp (p : Nat → Bool) (i : Nat) (c : Bool) : Nat → Bool := fun k => if k = i then c else p k
theorem rcs_set (p : Nat → Bool) (i : Nat) (c : Bool) : rcs (setp p i c) (i + 1) = rcs p i ++ (if c = true then [one (code i)] else []) := by
  rw [rcs_succ, rcs_congr (p := setp p i c) (q := p) fun k hk => by unfold setp; rw [if_neg (by omega)]]
  unfold setp
  rw [if_pos rfl]
def lowp (p : Nat → Bool) : Nat → Bool := fun k => p k && decide (k < 6)
theorem rcs_low (p : Nat → Bool) : rcs p 6 = rcs (lowp p) 9 := by
  rw [rcs_succ (lowp p) 8, rcs_succ (lowp p) 7, rcs_succ (lowp p) 6]
  have h6 : lowp p 6 = false := by unfold lowp; simp
  have h7 : lowp p 7 = false := by unfold lowp; simp
  have h8 : lowp p 8 = false := by unfold lowp; simp
  rw [h6, h7, h8]
  simp only [Bool.false_eq_true, if_false, List.append_nil]
  refine rcs_congr fun k hk => ?_
  unfold lowp
  rw [decide_eq_true hk, Bool.and_true]
theorem ow_lowp (p : Nat → Bool) : OneW (rtx (lowp p)) := ow_low fun k _ h => by
  unfold lowp
  rw [decide_eq_false (by omega), Bool.and_false]
theorem rcs_fit6 (p : Nat → Bool) : ((rcs p 6).map (·.length)).sum + (rcs p 6).length * (Str.ofString "").length ≤ 16777216 := by
  rw [rcs_low]; exact rcs_fit _
theorem join_low (p : Nat → Bool) : Txt.join (Str.ofString "") (rcs p 6) = rtx (lowp p) := by
  rw [rcs_low]; rfl

theorem with_finW {A P : Int → Int → Hp → Prop} {G : Prop} (h : ∀ lo hi H, A lo hi H → P lo hi H) (k : (∀ lo hi H, A lo hi H → P lo hi H) → G) : G := k h
theorem small_ex {lo hi : Int} (h1 : lo < hi) (h2 : hi - lo ≤ 16) : ∃ s, Ex lo hi s := by
  refine ⟨0, ⟨by omega, ?_, fun t ht => absurd ht (Nat.not_lt_zero t)⟩, ?_, ?_⟩
  · unfold Dd; simp; omega
  · simp
  · simp
theorem W45_of {n : Nat} (h : n < 35184372088832) : W45 (n : Int) := by unfold W45; omega
theorem sub_nodup : ∀ {L l : List Nat}, l.Sublist L → L.Nodup → l = L.filter (fun k => decide (k ∈ l)) := by
  intro L l h
  induction h with
  | slnil => intro _; rfl
  | @cons l L a h ih =>
    intro n
    obtain ⟨n1, n2⟩ := List.nodup_cons.mp n
    have na : a ∉ l := fun z => n1 (h.subset z)
    rw [List.filter_cons, if_neg (by simpa using na)]
    exact ih n2
  | @cons_cons l L a h ih =>
    intro n
    obtain ⟨n1, n2⟩ := List.nodup_cons.mp n
    rw [List.filter_cons, if_pos (by simp)]
    congr 1
    refine (ih n2).trans (List.filter_congr fun k hk => ?_)
    have nk : k ≠ a := fun z => n1 (z ▸ hk)
    rw [decide_eq_decide]
    simp [nk]
theorem sub_rtx {p : Nat → Bool} {l : List Nat} (h : l.Sublist (rtx p).cps.toList) : ∃ q : Nat → Bool, (∀ k, k < 9 → q k = true → p k = true) ∧ l.map one = rcs q 9 := by
  rw [rtx_codes] at h
  obtain ⟨l', h1, rfl⟩ := List.sublist_map_iff.mp h
  have h2 : l'.Sublist (List.range 9) := h1.trans List.filter_sublist
  have e := sub_nodup h2 List.nodup_range
  refine ⟨fun k => decide (k ∈ l'), fun k _ hk => ?_, ?_⟩
  · have m := h1.subset (of_decide_eq_true hk)
    exact (List.mem_filter.mp m).2
  · unfold rcs
    rw [List.map_map, ← e]
    rfl
theorem sub_snoc {l L : List Nat} {i c : Nat} (h : l.Sublist (L.take i)) (e : L[i]? = some c) : (l ++ [c]).Sublist (L.take (i + 1)) := by
  rw [List.take_add_one, e]
  exact h.append (List.Sublist.refl _)
theorem sub_skip {l L : List Nat} {i : Nat} (h : l.Sublist (L.take i)) : l.Sublist (L.take (i + 1)) := by
  rw [List.take_add_one]
  exact h.trans (List.sublist_append_left _ _)
theorem sub_len {l : List Nat} {i : Nat} {p : Nat → Bool} (h : l.Sublist ((rtx p).cps.toList.take i)) : l.length < 1000 := by
  have h1 := h.length_le
  rw [List.length_take] at h1
  have := rtx_len p
  have e : (rtx p).cps.toList.length = (rtx p).cps.size := by simp
  omega

theorem ex1648 : ∃ s, Ex 16 48 s := ⟨1, ⟨by decide, by decide, fun t ht => by
  have : t = 0 := by omega
  subst this; decide⟩, by decide, by decide⟩
theorem take_all {α : Type} {l : List α} {n : Nat} (h : n = l.length) : l.take n = l := by rw [h, List.take_length]
theorem size_len (z : Str) : z.cps.size = z.cps.toList.length := by simp
theorem strs_fit {l : List Nat} (h : l.length < 1000) : (((l.map one)).map (·.length)).sum + (l.map one).length * (Str.ofString "").length ≤ 16777216 := by
  have e : (Str.ofString "").length = 0 := by decide +kernel
  have e2 : ((l.map one).map (·.length)).sum = l.length := by
    clear h e
    induction l with
    | nil => rfl
    | cons x r ih =>
      simp only [List.map_cons, List.sum_cons, List.length_cons] at *
      rw [ih]
      show 1 + _ = _
      omega
  rw [e, e2]
  omega
theorem filt_nil {l : List Nat} {f : Nat → Bool} : (l.filter f).isEmpty = true ↔ ∀ c ∈ l, ¬ f c = true := by
  rw [List.isEmpty_iff, List.filter_eq_nil_iff]
/-! ### the law's own call, where nothing guards: repr of data -/
/-- a def's body, walked for one caller's state A alone -/
theorem body_at {P : Program} {w : World} {K : PySem.W.Frag} {mg : Str → Option Value} {base : Heap} {k : Nat} {f : Addr} {name qual : Str} {params : Arguments} {body : List Stmt} {scope : Scope}
    {dV kV doc pm cdv ct oc : Value} {an od : Option Addr} {osl : Array (Option Value)} {N ps : List Str} {A : Around} {outer : List Env} {s : Shared} {H : Hp} {args : Args} {us : List Value} {vs : List V} {Q : VK}
    (lk : K.lookup f = some ⟨oc, od, .func (PySem.W.fnOf name qual params body scope dV kV doc pm an cdv ct), osl⟩) (hcd : PySem.W.codeIn K cdv qual = true) (S : FnScope N ps scope) (hl : vs.length = ps.length)
    (hr : Room (k + 1) A) (e0 : Env0 P w K mg base A outer s H) (hb : BindsTo s (PySem.W.fnOf name qual params body scope dV kV doc pm an cdv ct) args (ps.zip us)) (rv : Vals vs us)
    (walk : ∃ t, PSs (cxOf CX0 P w K mg base N qual scope f cdv A outer s H (fun _ _ _ => False)) body t ∧ t { nx := fun _ H' => Q .non H', rt := Q } (start N vs) H) :
    codeAny (model P w) A (.call (.ref f) args) (CR CX0 outer P w H s Q fun _ _ _ => False) s := by
  have old : ∀ b o, base.get? b = some o → s.heap.get? b = some o := fun b o z => (e0.bs b o z).1
  have inK : K.In s.heap := e0.mod.kin.keeps old
  have slots : ∀ y ∈ ps.zip us, scope.names.lookup y.1 = some .local ∨ (scope.names.lookup y.1 = some .cell ∧ ((cellsFrom (s.heap.objs.size + 1) scope.names []).lookup y.1).isSome = true) := by
    rintro ⟨n, v⟩ hy
    cases S.par n (List.of_mem_zip hy).1 with
    | inl z => exact Or.inl z
    | inr z => exact Or.inr ⟨z, PySem.W.cellsFrom_some _ _ _ (Or.inl z)⟩
  obtain ⟨t, ht, hq⟩ := walk
  refine codeAny_call_function hr.depth (inK _ _ lk) rfl S.co S.gen rfl (PySem.W.codeRec_of inK hcd) (hb _ _ _ _ ?_)
  refine wpAny_newFunctionEnv_cells S.kind slots fun env eenv s1 ic => ?_
  subst eenv
  refine ⟨(e0.mod.nolimit.keeps old).keeps ic.toInCall.keep, codeAny_func ?_⟩
  have J := inv_start (CX := CX0) (E := fun _ _ _ => False) S hr.hd e0 hl rv ic
  refine wpAny_mono (ht.run [] s1 _ H _ J hq) (fun fl s' got => ?_) fun _ _ z => z
  match fl, got with
  | .ret u, ⟨v, σ', H', J', r', q'⟩ => exact ⟨v, H', J'.os, J'.bare, J'.base, J'.hok, r', q'⟩
  | .next, ⟨σ', H', J', q'⟩ => exact ⟨.non, H', J'.os, J'.bare, J'.base, J'.hok, rfl, q'⟩
  | .brk, ⟨_, _, _, q'⟩ => exact q'.elim
  | .cont, ⟨_, _, _, q'⟩ => exact q'.elim
/-- the script as the only thing that may be tracked -/
structure Scr (P : Program) (w : World) (K : PySem.W.Frag) (h : Heap) (a : Addr) (ns : List Int) (H : Hp) : Prop where
  only : Only H
  seq : SqL K H a (ns.map V.int)
  ok : HOk P w H h
  at' : ∀ b, H b ≠ none → b = a ∧ K.lookup a = none
theorem scr {P : Program} {w : World} {K : PySem.W.Frag} {h : Heap} {a : Addr} {vs : List Value} {ns : List Int} (KX : K.In h)
    (ha : h.get? a = some { cls := .type "list", data := .seq vs.toArray }) (hi : IntsAre vs ns) (hl : ns.length ≤ sizeLine) : ∃ H, Scr P w K h a ns H := by
  have rel := vals_ints hi
  have len : (ns.map V.int).length ≤ sizeLine := by rw [List.length_map]; exact hl
  by_cases inK : K.lookup a = none
  · refine ⟨upd (fun _ => none) a (.frz { cls := .type "list", data := .seq vs.toArray } (.lst (ns.map V.int))), fun b => ?_, .inl (.inr ⟨_, upd_same⟩), fun b o e => ?_, fun b e => ?_⟩
    · rcases Decidable.em (b = a) with z | z
      · subst z; exact .inr ⟨_, _, upd_same⟩
      · exact .inl (upd_ne z)
    · rcases Decidable.em (b = a) with z | z
      · subst z
        rw [upd_same] at e
        cases e
        exact ⟨ha, len, vs, _, rel, ha⟩
      · rw [upd_ne z] at e; cases e
    · rcases Decidable.em (b = a) with z | z
      · exact ⟨z, inK⟩
      · exact absurd (upd_ne z) e
  · obtain ⟨o, ho⟩ : ∃ o, K.lookup a = some o := by
      cases e : K.lookup a with
      | none => exact absurd e inK
      | some o => exact ⟨o, rfl⟩
    have same : o = { cls := .type "list", data := .seq vs.toArray } := Option.some.inj ((KX a o ho).symm.trans ha)
    subst same
    refine ⟨fun _ => none, fun _ => .inl rfl, .inr ⟨_, vs.toArray, 0, ho, rfl, rfl, rfl, ?_, ?_⟩, fun _ _ e => ?_, fun _ e => absurd rfl e⟩
    · have := hi.length
      show vs.toArray.size ≤ sizeLine
      rw [List.size_toArray]; omega
    · show Vals _ vs.toArray.toList
      exact rel
    · exact nomatch e
/-- the law's call from its promise, walked where nothing guards -/
theorem call_scr {P : Program} {w : World} {K : PySem.W.Frag} {mg mb : Str → Option Value} {fa a : Addr} {s₁ : Shared} {vs : List Value} {ns : List Int}
    (KX : K.In s₁.heap) (hns : s₁.heap.Ns mainGlobals mg) (hb : s₁.heap.Ns builtinsNs mb) (hbb : ∀ x : Str, x ≠ "__name__" → mb x = bootBuiltins x) (hlim : s₁.heap.NoLimit) (hg : s₁.gens = #[])
    (ha : s₁.heap.get? a = some { cls := .type "list", data := .seq vs.toArray }) (hi : IntsAre vs ns) (hl : ns.length ≤ sizeLine)
    (B : ∀ base H, K.In base → base.Ns mainGlobals mg → Env0 P w K mg base callerA [] s₁ H → SqL K H a (ns.map V.int) →
      codeAny (model P w) callerA (.call (.ref fa) ⟨[.ref a], []⟩) (CR CX0 [] P w H s₁ (fun v _ => v = .bl true) fun _ _ _ => False) s₁) :
    codeAny (model P w) callerA (.call (.ref fa) ⟨[.ref a], []⟩) (fun r s' => r = .ok (.ret (.bool true)) ∧ OldK s₁.heap s'.heap ∧ s'.os = s₁.os ∧ AllBare s'.gens) s₁ := by
  obtain ⟨H, C⟩ := scr (P := P) (w := w) KX ha hi hl
  -- what holds no list stands in the part that is not tracked
  have free : ∀ b o, s₁.heap.get? b = some o → (∀ n, o.data ≠ .seq vs.toArray n) → H b = none := fun b o e nd => by
    rcases Decidable.em (H b = none) with z | z
    · exact z
    · have q := (C.at' b z).1
      subst q
      rw [ha] at e
      cases e
      exact absurd rfl (nd _)
  have ns_of : ∀ L m, s₁.heap.Ns L m → (hidT s₁.heap H).Ns L m := fun L m n => by
    obtain ⟨o, es, ep, e, d, r⟩ := n
    exact ⟨o, es, ep, hidT_get e (free _ _ e fun k z => by rw [d] at z; cases z), d, r⟩
  have kin : K.In (hidT s₁.heap H) := fun b o e => by
    refine hidT_get (KX b o e) ?_
    rcases Decidable.em (H b = none) with z | z
    · exact z
    · obtain ⟨q, u⟩ := C.at' b z
      subst q
      rw [u] at e; cases e
  obtain ⟨mc, l1, l2⟩ := hlim
  have e0 : Env0 P w K mg (hidT s₁.heap H) callerA [] s₁ H :=
    ⟨rfl, ⟨kin, ns_of _ _ hns, ⟨mb, ns_of _ _ hb, hbb⟩, mc, ns_of _ _ l1, l2⟩, fun b o e => of_hidT e, Nat.le_of_eq (hidT_size _ _), trivial, fun b z => absurd (show b ∈ ([] : List Addr) from z) (by simp), C.ok, AllBare.of_eq hg⟩
  refine codeAny_mono (B _ H kin (ns_of _ _ hns) e0 C.seq) fun r s' got => ?_
  match r, got with
  | .ok (.ret u), ⟨v, H', os, bare, un, hok', rv, q⟩ =>
    cases q
    cases rv
    refine ⟨rfl, OldK.of_keep fun b o e => ?_, os, bare⟩
    rcases C.only b with z | ⟨ob, xs, z⟩
    · exact un.keep b o e z (fun y => nomatch y) (fun y => nomatch y)
    · have o1 := (C.ok b _ z).1
      have o2 := (hok' b _ (un.frzs b ob _ z)).1
      have := Option.some.inj (o1.symm.trans e)
      subst this
      exact o2
  | .ok .next, z => exact False.elim z
  | .ok .brk, z => exact False.elim z
  | .ok .cont, z => exact False.elim z
  | .error e, z => exact False.elim z
/-- the goal that the head leaves: the law's def walked for its caller's own state, in which nothing guards -/
theorem walk_scr {l : PySem.W.OpenLaw} {n : Nat} {q : Program} {loose : List Str} {XP : (Str → Option Value) → Heap → Prop} {YP : World → Heap → Prop} {d : DefRec} {K : Params → PySem.W.Frag}
    (hn : l.most = some n) (hn2 : n ≤ sizeLine) (hdf : d.params.defaults = []) (hY : ∀ (w : World) (h : Heap), YP w h → (K w.params).In h)
    (F : ∀ (w : World) (mg : Str → Option Value) (fa : Addr) (h : Heap), (K w.params).In h → h.Ns mainGlobals mg → mg d.name = some (.ref fa) →
      ∀ (base : Heap) (H : Hp) (s : Shared) (a : Addr) (ns : List Int), (K w.params).In base → base.Ns mainGlobals mg → Env0 l.prog w (K w.params) mg base callerA [] s H → SqL (K w.params) H a (ns.map V.int) → ns.length ≤ n →
        codeAny (model l.prog w) callerA (.call (.ref fa) ⟨[.ref a], []⟩) (CR CX0 [] l.prog w H s (fun v _ => v = .bl true) fun _ _ _ => False) s) :
    PySem.W.WalkO q loose XP YP l.row.toRowW d [] (fun f vs => PySem.call f vs) := by
  refine Att.attach_call hn hdf fun w s₀ s₁ mg mb fa o pm cd doc a vs ns G Y _ _ _ hmg hobj hints hlen hg => ?_
  have KX := hY w _ Y
  exact call_scr KX G.T.g G.T.b G.T.builtins G.T.nolimit hg hobj hints (Nat.le_trans hlen hn2) fun base H kb nb e0 hS => F w mg fa _ KX G.T.g hmg base H s₁ a ns kb nb e0 hS hlen
theorem caller_guards : callerA.guards = some [] := by first | rfl | decide
/-- repr of data, where nothing guards -/
def rRepr (K : PySem.W.Frag) : List V → Hp → VK → Prop := fun xs H Q => ∃ (x : V) (d : PyData), xs = [x] ∧ Dp K H x d ∧ d.showable = true ∧ d.hasDict = false ∧ d.depth ≤ 50 ∧ d.shown.length ≤ sizeLine ∧ Q (.str d.shown) H
theorem call_reprD {X : Cx} (gd : X.A.guards = some []) (hu : X.A.units + 64 < cLine) : CallR X (.builtin "repr") (rRepr X.K) := by
  intro pins s σ H xs us Q I r h
  obtain ⟨x, d, rfl, hd, hs, hnd, hdp, hz, hq⟩ := h
  obtain ⟨u, rfl, ru⟩ := r.one
  obtain ⟨as, rd⟩ := Dp.reads I d x u hd ru
  have byRef : ∀ a, u = .ref a → wpAny (model X.prog X.w) X.A (call (.builtin "repr") [u]) (EP X pins σ Q) X.xe s := fun a e => by
    subst e
    exact repr_of_reads' rd hs (fun z => by rw [hnd] at z; cases z) gd (by omega) (fun _ _ z => z) (fun h' v tk k => ⟨.str d.shown, H, I.kept (t' := tk) k, ⟨_, rfl⟩, hq⟩) hz
  cases hd with
  | non =>
    cases ru
    exact PySem.P.repr_of_none ⟨.str "None", H, I.tok _, ⟨_, rfl⟩, hq⟩
  | bl b =>
    cases ru
    exact PySem.P.repr_of_bool ⟨.str (if b then "True" else "False"), H, I.tok _, ⟨_, rfl⟩, hq⟩
  | int i =>
    obtain ⟨t, rfl⟩ := ru
    exact PySem.P.repr_of_int (of_decide_eq_true hs) ⟨.str (toString i), H, I.tok _, ⟨_, rfl⟩, hq⟩
  | str z =>
    obtain ⟨t, rfl⟩ := ru
    exact PySem.P.repr_of_str ⟨.str (reprText z), H, I.tok _, ⟨_, rfl⟩, hq⟩ hz
  | lst _ _ => exact byRef _ ru
  | tup _ _ => exact byRef _ ru
/-! ### list(text), tuple(text): its signs -/
theorem vals_idx : ∀ (xs : List V) (us : List Value), us.length = xs.length → (∀ (j : Nat) (u : Value), us[j]? = some u → ∃ x, xs[j]? = some x ∧ RelV x u) → Vals xs us := by
  intro xs
  induction xs with
  | nil =>
    intro us hl _
    cases us with
    | nil => exact .nil
    | cons _ _ => simp at hl
  | cons x xs ih =>
    intro us hl hk
    cases us with
    | nil => simp at hl
    | cons u us =>
      obtain ⟨y, e, r⟩ := hk 0 u rfl
      have ey : x = y := by simpa using e
      subst ey
      refine .cons r (ih us (by simpa using hl) fun j v hj => ?_)
      simpa using hk (j + 1) v (by simpa using hj)
def signs (z : Str) : List V := z.cps.toList.map fun c => V.str ⟨#[c]⟩
theorem signs_vals {z : Str} {acc : Array Value} (it : ItemsOf (SignAt z) acc z.cps.size) : Vals (signs z) acc.toList := by
  refine vals_idx _ _ (by unfold signs; rw [Array.length_toList, List.length_map, Array.length_toList]; exact it.1) fun j u hj => ?_
  obtain ⟨c, t, hc, rfl⟩ := it.2 j u (by rw [← Array.getElem?_toList]; exact hj)
  refine ⟨V.str ⟨#[c]⟩, ?_, ⟨t, rfl⟩⟩
  unfold signs
  rw [List.getElem?_map, Array.getElem?_toList, hc]; rfl
theorem call_listStr {X : Cx} (hc : X.calm = true) : CallR X (.type "list") (fun xs H Q => ∃ z, xs = [.str z] ∧ z.cps.size ≤ sizeLine ∧ ∀ l, H l = none → Q (.ref l) (upd H l (.lst (signs z)))) := by
  intro pins s σ H xs us Q I r h
  obtain ⟨z, rfl, hz, q⟩ := h
  obtain ⟨u, rfl, rx⟩ := vals1 r
  obtain ⟨t, rfl⟩ := rx
  refine call_list_str (I.ok.hd hc) z t (fun h' tk acc c' kp e it => ?_) hz
  refine ⟨.ref s.heap.objs.size, _, I.laid (t' := tk) kp (Nat.le_refl _) (show ObjOk X.prog X.w _ h' _ (.lst (signs z)) from ⟨?_, acc.toList, c', signs_vals it, by rw [Array.toArray_toList]; exact e⟩), rfl, q _ (I.hok.fresh (Nat.le_refl _))⟩
  unfold signs
  rw [List.length_map, Array.length_toList]; exact hz
theorem call_tupleStr {X : Cx} (hc : X.calm = true) : CallR X (.type "tuple") (fun xs H Q => ∃ z, xs = [.str z] ∧ z.cps.size ≤ sizeLine ∧ ∀ l, H l = none → Q (.ref l) (upd H l (.tup (signs z)))) := by
  intro pins s σ H xs us Q I r h
  obtain ⟨z, rfl, hz, q⟩ := h
  obtain ⟨u, rfl, rx⟩ := vals1 r
  obtain ⟨t, rfl⟩ := rx
  refine call_tuple_str (I.ok.hd hc) z t (fun h' tk acc kp it => ?_) hz
  have I1 : Inv X pins σ H { s with heap := h', toks := tk } := I.kept (t' := tk) kp
  have I2 : Inv X pins σ (upd H h'.objs.size (.tup (signs z))) { s with heap := h'.push { cls := .type "tuple", data := .seq acc }, toks := tk } :=
    I1.laid (t' := tk) (fun b o e => Heap.get?_push_of_some _ e) (Nat.le_refl _) (show ObjOk X.prog X.w _ _ _ (.tup (signs z)) from ⟨?_, acc.toList, signs_vals it, by rw [Array.toArray_toList]; exact IsTup.new _ _⟩)
  · exact ⟨.ref h'.objs.size, _, I2, rfl, q _ (I1.hok.fresh (Nat.le_refl _))⟩
  · unfold signs
    rw [List.length_map, Array.length_toList]; exact hz
/-! ### things of many kinds, as data -/
theorem seqL_same {K : PySem.W.Frag} {H H' : Hp} {a : Addr} {xs : List V} (s : Same H H') (h : SqL K H a xs) : SqL K H' a xs := s.seq h
theorem seqT_same {K : PySem.W.Frag} {H H' : Hp} {a : Addr} {xs : List V} (e : Same H H') (h : SqT K H a xs) : SqT K H' a xs := by
  rcases h with (h | ⟨o, h⟩) | h
  · exact .inl (.inl (e _ _ h))
  · exact .inl (.inr ⟨o, e _ _ h⟩)
  · exact .inr h
mutual
theorem Dp.same {K : PySem.W.Frag} {H H' : Hp} (s : Same H H') : ∀ {v : V} {d : PyData}, Dp K H v d → Dp K H' v d
  | _, _, .non => .non
  | _, _, .bl b => .bl b
  | _, _, .int i => .int i
  | _, _, .str x => .str x
  | _, _, .lst h k => .lst (seqL_same s h) (DpAll.same s k)
  | _, _, .tup h k => .tup (seqT_same s h) (DpAll.same s k)
theorem DpAll.same {K : PySem.W.Frag} {H H' : Hp} (s : Same H H') : ∀ {vs : List V} {ds : List PyData}, DpAll K H vs ds → DpAll K H' vs ds
  | _, _, .nil => .nil
  | _, _, .cons h k => .cons (Dp.same s h) (DpAll.same s k)
end
theorem NoT.same {H H' : Hp} {v : V} (k : NoT H v) (s : Same H H') : NoT H' v := by
  cases k with
  | non => exact .non
  | bl b => exact .bl b
  | int i => exact .int i
  | str x => exact .str x
  | lst e => exact .lst (s _ _ e)
  | dk e => exact .dk (s _ _ e)
/-- the heap but for what stands at a -/
def hide (a : Addr) (H : Hp) : Hp := fun b => if b = a then none else H b
theorem hide_same (a : Addr) (H : Hp) : Same (hide a H) H := fun b o h => by
  unfold hide at h
  by_cases c : b = a
  · rw [if_pos c] at h; cases h
  · rw [if_neg c] at h; exact h
theorem hide_but {a : Addr} {H H' : Hp} (b : But a H H') : Same (hide a H) (hide a H') := fun c o h => by
  unfold hide at h ⊢
  by_cases e : c = a
  · rw [if_pos e] at h; cases h
  · rw [if_neg e] at h ⊢; exact b c o e h
theorem hide_at {a p : Addr} {H : Hp} {o : HO} (h : H p = some o) (n : p ≠ a) : hide a H p = some o := by
  unfold hide; rw [if_neg n]; exact h
def Sok (s : Str) : Prop := PyData.strOk s = true ∧ s.cps.size ≤ 100
def LeafD (d : PyData) : Prop := d.showable = true ∧ d.hasDict = false ∧ d.leavesShort 600 = true ∧ d.weight ≤ 200 ∧ d.depth ≤ 1
def FitD (d : PyData) : Prop := d.showable = true ∧ d.hasDict = false ∧ d.depth ≤ 50 ∧ d.shown.length ≤ sizeLine
/-- a leaf, or little more -/
def Leafy (K : PySem.W.Frag) (H : Hp) (v : V) : Prop := (∃ d, Dp K H v d ∧ LeafD d) ∧ Kd H v ∧ ∀ s, v = .str s → Sok s
theorem Leafy.same {K : PySem.W.Frag} {H H' : Hp} {v : V} (l : Leafy K H v) (s : Same H H') : Leafy K H' v := by
  obtain ⟨⟨d, h, k⟩, kd, so⟩ := l
  exact ⟨⟨d, Dp.same s h, k⟩, kd.same s, so⟩
theorem leafs_all {K : PySem.W.Frag} {H : Hp} : ∀ {xs : List V}, (∀ x ∈ xs, Leafy K H x) → ∃ ds, DpAll K H xs ds ∧ ds.length = xs.length ∧ ∀ d ∈ ds, LeafD d := by
  intro xs
  induction xs with
  | nil => exact fun _ => ⟨[], .nil, rfl, fun d hd => nomatch hd⟩
  | cons x xs ih =>
    intro h
    obtain ⟨⟨d, h1, h2⟩, _⟩ := h x (by simp)
    obtain ⟨ds, k1, k2, k3⟩ := ih fun y hy => h y (by simp [hy])
    refine ⟨d :: ds, .cons h1 k1, by simp [k2], fun e he => ?_⟩
    rcases List.mem_cons.mp he with z | z
    · rw [z]; exact h2
    · exact k3 e z
theorem leafs_fit {ds : List PyData} (h : ∀ d ∈ ds, LeafD d) (n : ds.length ≤ 8) : PyData.showableAll ds = true ∧ PyData.hasDictAll ds = false ∧ PyData.leavesShortAll 600 ds = true ∧ PyData.weightAll ds ≤ 1608 ∧ PyData.depthAll ds ≤ 1 := by
  have key : ∀ ds : List PyData, (∀ d ∈ ds, LeafD d) → PyData.showableAll ds = true ∧ PyData.hasDictAll ds = false ∧ PyData.leavesShortAll 600 ds = true ∧ PyData.weightAll ds ≤ 201 * ds.length ∧ PyData.depthAll ds ≤ 1 := by
    intro ds
    induction ds with
    | nil => intro _; simp [PyData.showableAll, PyData.hasDictAll, PyData.leavesShortAll, PyData.weightAll, PyData.depthAll]
    | cons d ds ih =>
      intro h
      obtain ⟨a1, a2, a3, a4, a5⟩ := h d (by simp)
      obtain ⟨b1, b2, b3, b4, b5⟩ := ih fun e he => h e (by simp [he])
      simp only [PyData.showableAll, PyData.hasDictAll, PyData.leavesShortAll, PyData.weightAll, PyData.depthAll, a1, a2, a3, b1, b2, b3, List.length_cons]
      refine ⟨rfl, rfl, rfl, by omega, by omega⟩
  obtain ⟨a1, a2, a3, a4, a5⟩ := key ds h
  exact ⟨a1, a2, a3, by omega, a5⟩
theorem fit_shown {d : PyData} (h : d.leavesShort 600 = true) (w : d.weight ≤ 2000) : d.shown.length ≤ sizeLine := by
  have := PyData.shown_le 600 (by decide) d h
  rw [sizeLine_eq]; omega
theorem fit_tup {ds : List PyData} (h : ∀ d ∈ ds, LeafD d) (n : ds.length ≤ 8) : FitD (.tuple ds) := by
  obtain ⟨a1, a2, a3, a4, a5⟩ := leafs_fit h n
  refine ⟨by simp only [PyData.showable, a1], by simp only [PyData.hasDict, a2], by simp only [PyData.depth]; omega, fit_shown (by simp only [PyData.leavesShort, a3]) (by simp only [PyData.weight]; omega)⟩
theorem fit_lst {ds : List PyData} (h : ∀ d ∈ ds, LeafD d) (n : ds.length ≤ 8) : FitD (.list ds) := by
  obtain ⟨a1, a2, a3, a4, a5⟩ := leafs_fit h n
  refine ⟨by simp only [PyData.showable, a1], by simp only [PyData.hasDict, a2], by simp only [PyData.depth]; omega, fit_shown (by simp only [PyData.leavesShort, a3]) (by simp only [PyData.weight]; omega)⟩
theorem leaf_str {s : Str} (h : Sok s) : LeafD (.str s) := by
  obtain ⟨h1, h2⟩ := h
  refine ⟨by simp [PyData.showable], by simp [PyData.hasDict], ?_, by simp only [PyData.weight]; omega, by simp [PyData.depth]⟩
  simp only [PyData.leavesShort]
  rw [List.all_eq_true]
  intro c hc
  unfold PyData.strOk at h1
  rw [Array.all_eq_true_iff_forall_mem] at h1
  have := of_decide_eq_true (h1 c (by simpa using hc))
  exact decide_eq_true (Nat.lt_trans this (by decide))
theorem leafy_str {K : PySem.W.Frag} {H : Hp} {s : Str} (h : Sok s) : Leafy K H (.str s) := ⟨⟨_, .str s, leaf_str h⟩, .str s, fun _ e => by cases e; exact h⟩
theorem leafy_none {K : PySem.W.Frag} {H : Hp} : Leafy K H .non := ⟨⟨_, .non, by unfold LeafD; decide⟩, .non, fun _ e => nomatch e⟩
theorem leafy_bl {K : PySem.W.Frag} {H : Hp} (b : Bool) : Leafy K H (.bl b) := ⟨⟨_, .bl b, by cases b <;> (unfold LeafD; decide)⟩, .bl b, fun _ e => nomatch e⟩
theorem leaf_int {i : Int} (h : i.natAbs < 10 ^ 40) : LeafD (.int i) := by
  have e := int_text_length_le10 (k := 40) (by decide) h
  have h2 : (10 : Nat) ^ 40 ≤ 16 ^ 40 := Nat.pow_le_pow_left (by decide) 40
  have h3 : (16 : Nat) ^ 40 = 2 ^ 160 := by rw [show (16 : Nat) = 2 ^ 4 by decide, ← Nat.pow_mul]
  have l : i.natAbs.log2 < 160 := PySem.Flt.log2_lt_of (by decide) (Nat.lt_of_lt_of_le h (h3 ▸ h2))
  clear h h2 h3
  refine ⟨?_, by simp [PyData.hasDict], ?_, ?_, by simp [PyData.depth]⟩
  · simp only [PyData.showable]; exact decide_eq_true (by omega)
  · simp only [PyData.leavesShort, PyData.shown]
    refine decide_eq_true ?_
    rw [PySem.ofString_length]; omega
  · simp only [PyData.weight]; split <;> omega
theorem leafy_int {K : PySem.W.Frag} {H : Hp} {i : Int} (h : i.natAbs < 10 ^ 40) : Leafy K H (.int i) := ⟨⟨_, .int i, leaf_int h⟩, .int i, fun _ e => nomatch e⟩
theorem small40 {i : Int} (h0 : -100000 ≤ i) (h1 : i ≤ 100000) : i.natAbs < 10 ^ 40 := by
  have : (100001 : Nat) ≤ 10 ^ 40 := by decide
  omega
theorem leafy_one {K : PySem.W.Frag} {H : Hp} {p : Addr} {i : Int} (h : H p = some (.tup [.int i])) (b : i.natAbs < 10 ^ 40) : Leafy K H (.ref p) := by
  refine ⟨⟨.tuple [.int i], .tup (.of h) (.cons (.int i) .nil), ?_⟩, .tup h, fun _ e => nomatch e⟩
  obtain ⟨a1, a2, a3, a4, a5⟩ := leaf_int b
  refine ⟨?_, ?_, ?_, ?_, ?_⟩
  · simp only [PyData.showable, PyData.showableAll, Bool.and_true] at *; exact a1
  · simp [PyData.hasDict, PyData.hasDictAll]
  · simp only [PyData.leavesShort, PyData.leavesShortAll, Bool.and_true] at *; exact a3
  · have l : i.natAbs.log2 < 160 := by
      have h2 : (10 : Nat) ^ 40 ≤ 16 ^ 40 := Nat.pow_le_pow_left (by decide) 40
      have h3 : (16 : Nat) ^ 40 = 2 ^ 160 := by rw [show (16 : Nat) = 2 ^ 4 by decide, ← Nat.pow_mul]
      exact PySem.Flt.log2_lt_of (by decide) (Nat.lt_of_lt_of_le b (h3 ▸ h2))
    simp only [PyData.weight, PyData.weightAll]; split <;> omega
  · simp [PyData.depth, PyData.depthAll]
/-- a thing: a tuple of leaves, a list of such, or a leaf that is no tuple -/
def Thing (K : PySem.W.Frag) (H : Hp) (v : V) : Prop := (∃ d, Dp K H v d ∧ FitD d) ∧ ((∃ (p : Addr) (xs : List V), v = .ref p ∧ H p = some (.tup xs) ∧ (∀ x ∈ xs, Kd H x) ∧ ∀ s, V.str s ∈ xs → Sok s) ∨ NoT H v)
theorem Thing.same {K : PySem.W.Frag} {H H' : Hp} {v : V} (t : Thing K H v) (s : Same H H') : Thing K H' v := by
  obtain ⟨⟨d, h, k⟩, t⟩ := t
  refine ⟨⟨d, Dp.same s h, k⟩, ?_⟩
  rcases t with ⟨p, xs, rfl, h1, h2, h3⟩ | t
  · exact .inl ⟨p, xs, rfl, s _ _ h1, fun x hx => (h2 x hx).same s, h3⟩
  · exact .inr (t.same s)
theorem Thing.tup {K : PySem.W.Frag} {H : Hp} {p : Addr} {xs : List V} (h : H p = some (.tup xs)) (l : ∀ x ∈ xs, Leafy K H x) (n : xs.length ≤ 8) : Thing K H (.ref p) := by
  obtain ⟨ds, k1, k2, k3⟩ := leafs_all l
  exact ⟨⟨.tuple ds, .tup (.of h) k1, fit_tup k3 (by omega)⟩, .inl ⟨p, xs, rfl, h, fun x hx => (l x hx).2.1, fun s hs => (l _ hs).2.2 s rfl⟩⟩
theorem Thing.lst {K : PySem.W.Frag} {H : Hp} {p : Addr} {xs : List V} (h : H p = some (.lst xs)) (l : ∀ x ∈ xs, Leafy K H x) (n : xs.length ≤ 8) : Thing K H (.ref p) := by
  obtain ⟨ds, k1, k2, k3⟩ := leafs_all l
  exact ⟨⟨.list ds, .lst (.of h) k1, fit_lst k3 (by omega)⟩, .inr (.lst h)⟩
theorem Thing.non {K : PySem.W.Frag} {H : Hp} : Thing K H .non := ⟨⟨_, .non, by unfold FitD; decide +kernel⟩, .inr .non⟩
theorem with_finVH {A P : Addr → Hp → Prop} {G : Prop} (h : ∀ p H, A p H → P p H) (k : (∀ p H, A p H → P p H) → G) : G := k h
/-! ### text[::-1] -/
def tRevS (te : TE) : TE := fun σ H Q => te σ H fun x H1 => ∃ z, x = .str z ∧ z.length ≤ sizeLine ∧ ∀ r : Str, r.length ≤ z.length → (∀ c ∈ r.cps.toList, c ∈ z.cps.toList) → Q (.str r) H1
theorem pe_revS {X : Cx} {te : TE} {e : Expr} {k : Nat} {p1 p2 p3 pos : Pos} (he : PE X e te) : PE X (.Subscript e (.Slice none none (some (.UnaryOp .USub (.Constant (.int 1) k p1) p2)) p3) pos) (tRevS te) := by
  refine ⟨fun pins s σ H Q I h => ?_⟩
  refine Subscript_ (thn (he.run pins s σ H _ I h) fun v s1 ⟨x, H1, I1, r1, q1⟩ => ?_)
  obtain ⟨z, ex, hz, q⟩ := q1
  subst ex
  obtain ⟨t, rfl⟩ := r1
  have hst : PO X (some (.UnaryOp .USub (.Constant (.int 1) k p1) p2)) (tPart (tUn (rU fun i => .int (-i)) (tC (.int 1)))) := po_some (pe_un un_neg pe_int)
  refine wpAny_Slice (thn (po_none.run pins s1 σ H1 (fun o H2 => o = none ∧ H2 = H1) I1 ⟨rfl, rfl⟩) fun vl s2 ⟨l, H2, I2, pl, el, e2⟩ => ?_)
  subst el e2
  refine thn (po_none.run pins s2 σ H2 (fun o H3 => o = none ∧ H3 = H2) I2 ⟨rfl, rfl⟩) fun vu s3 ⟨u, H3, I3, pu, eu, e3⟩ => ?_
  subst eu e3
  refine thn (hst.run pins s3 σ H3 (fun o H4 => o = some (-1) ∧ H4 = H3) I3 ⟨1, rfl, -1, rfl, rfl, rfl⟩) fun vs s4 ⟨o, H4, I4, ps, eo, e4⟩ => ?_
  subst eo e4
  cases pl
  cases pu
  obtain ⟨u5, rfl⟩ : ∃ u5, vs = .int (-1) u5 := by cases ps; exact ⟨_, rfl⟩
  have I5 : Inv X pins σ H4 { s4 with heap := s4.heap.push { cls := .type "slice", data := .fields #[.none, .none, .int (-1) u5] } } := I4.kept (t' := s4.toks) fun b ob q => Heap.get?_push_of_some _ q
  show wpAny (model X.prog X.w) X.A (subscriptTail e (.Slice none none (some (.UnaryOp .USub (.Constant (.int 1) k p1) p2)) p3) (.str z t) (.ref s4.heap.objs.size)) (EP X pins σ Q) X.xe { s4 with heap := s4.heap.push { cls := .type "slice", data := .fields #[.none, .none, .int (-1) u5] } }
  refine tail_any (ops := [.ref s4.heap.objs.size, .str z t]) (typeIs_str _ _ _) (F.slot_str_getitem.lookup) ?_ (by with_unfolding_all rfl)
  refine wpAny_getItem_str_slice (l := none) (u := none) (st := some (-1, u5)) ⟨_, Heap.get?_push_size _ rfl, rfl, rfl⟩ (show ((-1 : Int) == 0) = false by decide) ?_
  have le := Txt.sliceBy_le z none none (-1, u5) (show (-1 : Int) ≠ 0 by decide)
  refine post_val_or_str ⟨Nat.le_trans le hz, fun t' c => ?_⟩
  refine ⟨.str (Txt.sliceBy z none none (-1, u5)), H4, I5.tok c, ⟨t', rfl⟩, q _ le fun d hd => ?_⟩
  unfold Txt.sliceBy at hd
  split at hd
  · exact hd
  · simp only [List.mem_filterMap] at hd
    obtain ⟨i, _, hi⟩ := hd
    have hi2 : z.cps.toList[i]? = some d := by rw [Array.getElem?_toList]; exact hi
    exact List.mem_of_getElem? hi2
/-! ### an error that is kept behind its suite -/
/-- at a: an exception of the class cls, its own dict at d -/
def kept (a : Addr) (cls : Value) (d : Option Addr) : HO := .ext fun h => ∃ oe, h.get? a = some oe ∧ Zc cls d oe ∧ ∃ vs, oe.data = .fields vs
theorem kept_ok {P : Program} {w : World} {H : Hp} {h : Heap} {a : Addr} {cls : Value} {d : Option Addr} {oe : Obj} {vs : Array Value} (e : h.get? a = some oe) (z : Zc cls d oe) (hd : oe.data = .fields vs) : ObjOk P w H h a (kept a cls d) :=
  ⟨⟨oe, e, z, vs, hd⟩, ⟨oe, e⟩, fun _ _ ⟨o, e1, r⟩ k => ⟨o, k o e1, r⟩⟩
theorem Inv.track {X : Cx} {pins : List (Addr × Obj)} {σ : L2.St} {H : Hp} {s : Shared} {a : Addr} {cls : Value} {d : Option Addr} {oe : Obj} {vs : Array Value} (I : Inv X pins σ H s)
    (e : s.heap.get? a = some oe) (z : Zc cls d oe) (hd : oe.data = .fields vs) (na : H a = none) (n0 : X.s_0.heap.get? a = none) (nL : a ≠ X.env.locals) (np : ∀ p ∈ X.pn ++ pins, p.1 ≠ a) :
    Inv X pins σ (upd H a (kept a cls d)) s := by
  refine ⟨I.ok, I.os, I.bare, ⟨I.base.keep, I.base.slot, fun b o q n hx => ?_, I.base.there, fun b xs q => ?_, fun b o u q => ?_, fun b ps q => ?_⟩, I.loc, I.cell, ?_, fun x c q => ?_, fun p hp => ?_, fun b o q => ?_, I.len⟩
  · have nb : b ≠ a := fun y => by rw [y, n0] at q; cases q
    rw [upd_ne nb]
    exact I.base.free b o q n hx
  · have q' := I.base.tups b xs q
    rw [upd_ne (ne_of_none q' na)]; exact q'
  · have q' := I.base.frzs b o u q
    rw [upd_ne (ne_of_none q' na)]; exact q'
  · obtain ⟨more, q'⟩ := I.base.tbls b ps q
    exact ⟨more, by rw [upd_ne (ne_of_none q' na)]; exact q'⟩
  · rw [upd_ne (Ne.symm nL)]; exact I.free
  · have nc : c ≠ a := fun y => by
      obtain ⟨v, o, e1, e2⟩ := I.cell x c q
      rw [y, e] at e1
      cases e1
      rw [hd] at e2
      cases e2
    rw [upd_ne nc]; exact I.freeC x c q
  · obtain ⟨p1, p2, p3, p4, p5⟩ := I.pin p hp
    exact ⟨p1, by rw [upd_ne (np p hp)]; exact p2, p3, p4, p5⟩
  · by_cases hb : b = a
    · subst hb
      rw [upd_same] at q
      cases q
      exact kept_ok e z hd
    · rw [upd_ne hb] at q
      exact (I.hok b o q).stay (fun _ _ _ y => y) (fun c hc => by rw [upd_ne (ne_of_none hc na)]; exact hc) fun c xs hc => by rw [upd_ne (ne_of_none hc na)]; exact hc
/-- what the clause 'except x as n' wishes of an exception of the body, where the error is kept -/
def wKp (K : PySem.W.Frag) (c : Value) (i : Nat) (ts : Addr → Value → Option Addr → TS) (Wout : WX) (D : Ends) : WX := fun cls d σ H =>
  ∃ b, PySem.W.exmOne K cls c = some b ∧ (b = true → ∀ a, H a = none → ts a cls d { nx := fun σ' H' => D.nx (σ'.set i none) (upd H' a (kept a cls d)), rt := fun v H' => D.rt v (upd H' a (kept a cls d)), bk := fun σ' H' => D.bk (σ'.set i none) (upd H' a (kept a cls d)), ct := fun σ' H' => D.ct (σ'.set i none) (upd H' a (kept a cls d)) } (σ.set i (some (.ref a))) H) ∧
    (b = false → Wout cls d σ H)
section
variable {X : Cx} {x n : Str} {c : Value} {i : Nat} {body suite : List Stmt} {b₀ : Stmt} {np pos pos' : Pos} {tb : WX → TS} {ts : Addr → Value → Option Addr → TS} {Wout : WX}
theorem ps_try_keep (hs : X.stack = X.env :: X.outer) (hex : X.ex = []) (hf : X.env.frame = some X.env.locals) (hN : X.N.Nodup) (hi : X.N[i]? = some n) (hln : X.env.kindOf n = some .local) (hc : Names X x c) (tk : Takes X Wout)
    (hb : ∀ (W : WX) (pn : List (Addr × Obj)) (xe : Value → Shared → Prop), Takes (X.tr pn xe) W → PassesOwn (model X.prog X.w) X.A X.env xe → PSs (X.tr pn xe) body (tb W))
    (hsu : ∀ (a : Addr) (oe : Obj) (cls : Value) (d : Option Addr) (pn : List (Addr × Obj)), Zc cls d oe → (∃ vs, oe.data = .fields vs) → PSs (X.suite a ((a, oe) :: pn)) (b₀ :: suite) (ts a cls d)) :
    PS X (.Try body [.ExceptHandler (some (.Name x np)) (some n) (b₀ :: suite) pos'] [] [] pos) (fun D σ H => tb (wKp X.K c i ts Wout D) D σ H) := by
  refine ⟨fun pins s σ H D I h => ?_⟩
  have ok := I.ok
  have hfr : X.A.frames = some (X.env :: X.outer) := by rw [ok.frames, hs]
  have hloc : Loc X.env.scope n := .inl hln
  refine wpAny_Try_except ?_
  refine wpAny_mono ((hb (wKp X.K c i ts Wout D) (X.pn ++ pins) (fun e s₁ => wpAny (model X.prog X.w) X.A (noteFrame e X.env) (fun _ s₂ => wpAny (model X.prog X.w) X.A (setFlight e none) (fun _ s₃ =>
    wpAny (model X.prog X.w) X.A (handleBy e X.env [.ExceptHandler (some (.Name x np)) (some n) (b₀ :: suite) pos']) (SP X pins D) X.xe s₃) X.xe s₂) X.xe s₁) (fun u s' xx => ?_) PassesOwn.looking).run [] s σ H D (I.toTry _) h) (fun f s1 hsp => ?_) (fun e s1 he => he)
  · obtain ⟨a, B, sI, pins', σ', H', cls, d, rfl, J', nb, up, sky, na, os, ag, b, hb1, hyes, hno⟩ := xx
    have J : Inv X pins σ' H' sI := J'.ofTry ok
    have sky' : Sky B (X.env :: X.outer) a (Zc cls d) X.env.locals s'.heap := by rw [← hs]; exact sky
    show wpAny (model X.prog X.w) X.A (noteFrame (.ref a) X.env) _ _ _
    refine Sky.land Zc.steady hfr hf sky' fun h3 fl3 up3 => ?_
    have J3 : Inv X pins σ' H' { s' with heap := h3 } := J.landed nb fl3.1 (up.trans up3) os ag
    obtain ⟨oe3, vs3, he3, hz3, hd3⟩ := fl3.there
    have notFr : ∀ {h : Heap} {o : Obj} {vs : Array Value}, h.FunFrames B (X.env :: X.outer) → h.get? a = some o → o.data = .fields vs → a ∉ frs (X.env :: X.outer) := fun {h o vs} ff e dd hm => by
      obtain ⟨_, o', e', hnf⟩ := ff.mem hm
      rw [e] at e'; cases e'
      exact hnf _ dd
    have nfr := notFr fl3.2.2.1 he3 hd3
    have nL : a ≠ X.env.locals := fun z => nfr (List.mem_filterMap.mpr ⟨X.env, List.mem_cons_self, by rw [hf, z]⟩)
    have nF : a ∉ X.fs := fun hm => by
      obtain ⟨e, he, q⟩ := List.mem_filterMap.mp hm
      exact nfr (List.mem_filterMap.mpr ⟨e, List.mem_cons_of_mem _ he, q⟩)
    have nI : sI.heap.get? a = none := by
      cases e : sI.heap.get? a with
      | none => rfl
      | some o =>
        have z := nb a o e (by rw [hs]; exact nfr)
        rw [fl3.2.1] at z
        cases z
    have n0 : X.s_0.heap.get? a = none := by
      cases e : X.s_0.heap.get? a with
      | none => rfl
      | some o =>
        obtain ⟨o', e'⟩ := J.base.there a o e (by rw [hex]; exact fun z => nomatch z)
        rw [nI] at e'
        cases e'
    have npin : ∀ p ∈ X.pn ++ pins, p.1 ≠ a := fun p hp z => by
      obtain ⟨e, _⟩ := J.pin p hp
      rw [z, nI] at e
      cases e
    have S3 := J3.suite he3 hd3 na nL nF
    refine wpAny_handleBy_cons (codeAny_handlers_test ?_) (by intro q; cases q)
    have LT : PySem.W.Looks (model X.prog X.w) h3 (typeOf (.ref a)) cls := fun A Q E s k q => wpAny_typeOf_ref (k _ _ he3) (by rw [hz3.1]; exact q)
    have LM := PySem.W.exm_one (M := model X.prog X.w) (J3.kIn) LT hb1
    have test : ∀ {Q : Value → Shared → Prop} {E : Value → Shared → Prop}, Q c { s' with heap := h3 } → wpAny (model X.prog X.w) (X.A.mark (some (.ref a))) (eval (.Name x np) X.env) Q E { s' with heap := h3 } := fun {Q E} q => by
      obtain ⟨hg, hdbg, hm | ⟨hm, hv, hnn⟩⟩ := hc
      · exact ld_glob (X := X.suite a ((a, oe3) :: (X.pn ++ pins))) S3 hg hm q hdbg
      · exact ld_blt (X := X.suite a ((a, oe3) :: (X.pn ++ pins))) S3 hg hm hv q hnn hdbg
    refine test (LM.here ?_)
    cases b with
    | true =>
      refine codeAny_handlers_suite_as ?_
      refine HandSPX.lands_againZ fl3 fun h4 fl4 up4 => ?_
      have J4 : Inv X pins σ' H' { s' with heap := h4 } := J.landed nb fl4.1 ((up.trans up3).trans up4) os ag
      obtain ⟨oe4, vs4, he4, hz4, hd4⟩ := fl4.there
      have S4 := J4.suite he4 hd4 na nL nF
      refine store_ok (X := X.suite a ((a, oe4) :: (X.pn ++ pins))) (v := .ref a) S4 hN hi hloc rfl (fun s5 S5 => ?_) (.inr hln)
      refine wpAny_mono ((hsu a oe4 cls d (X.pn ++ pins) hz4 ⟨_, hd4⟩).run [] s5 _ H' _ S5 (hyes rfl a na)) (fun f s6 hsp => ?_) (fun _ _ z => False.elim z)
      have end_ : ∀ {σ6 : L2.St} {H6 : Hp} {Q : Shared → Prop}, Inv (X.suite a ((a, oe4) :: (X.pn ++ pins))) [] σ6 H6 s6 → (∀ s7, Inv X pins (σ6.set i none) (upd H6 a (kept a cls d)) s7 → Q s7) →
          wpAny (model X.prog X.w) X.A (do bindName X.env n .none; unbindBehindTheSuite X.env n pos') (fun _ s7 => Q s7) X.xe s6 := fun {σ6 H6 Q} S6 hq => by
        obtain ⟨p1, p2, _⟩ := S6.pin (a, oe4) (List.mem_append.mpr (.inl List.mem_cons_self))
        exact gone_ok (My.Inv.track (S6.unsuite ok) p1 hz4 hd4 p2 n0 nL npin) hN hi hln hq
      cases f with
      | next =>
        obtain ⟨σ6, H6, S6, q6⟩ := hsp
        exact end_ S6 fun s7 J7 => ⟨_, _, J7, q6⟩
      | brk =>
        obtain ⟨σ6, H6, S6, q6⟩ := hsp
        exact end_ S6 fun s7 J7 => ⟨_, _, J7, q6⟩
      | cont =>
        obtain ⟨σ6, H6, S6, q6⟩ := hsp
        exact end_ S6 fun s7 J7 => ⟨_, _, J7, q6⟩
      | ret u =>
        obtain ⟨v6, σ6, H6, S6, r6, q6⟩ := hsp
        exact end_ S6 fun s7 J7 => ⟨_, _, _, J7, r6, q6⟩
    | false =>
      show wpAny _ X.A (handleBy (.ref a) X.env []) _ _ _
      refine wpAny_handleBy_nil ?_
      obtain ⟨k1, k2, k3, oe, vs, T, oT, ts', he, hz, hd, h1, hr⟩ := id fl3
      unfold PySem.passOn
      refine wpAny_bind (wpAny_field he hd h1 ?_)
      rw [if_neg (show ¬ ((Value.ref T == Value.none) = true) from by simp)]
      have fin : wpAny (model X.prog X.w) X.A (setFlight (.ref a) X.env.frame) (fun _ s4 => wpAny (model X.prog X.w) X.A (throw (.ref a) : Sem Flow) (SP X pins D) X.xe s4) X.xe { s' with heap := h3 } := by
        rw [hf]
        refine HandSPX.setFlight_upZ fl3 fun h4 hh4 up4 => wpAny_throw (tk _ _ ?_)
        exact ⟨a, B, sI, pins, σ', H', cls, d, rfl, J, nb, (up.trans up3).trans up4, .inr (.inr (by rw [hs]; exact hh4)), na, os, ag, hno rfl⟩
      first
        | exact wpAny_bind (wpAny_pure (wpAny_bind fin))
        | exact wpAny_bind fin
  · cases f with
    | next =>
      obtain ⟨σ', H', J', q⟩ := hsp
      exact wpAny_execs_nil ⟨σ', H', J'.ofTry ok, q⟩
    | brk =>
      obtain ⟨σ', H', J', q⟩ := hsp
      exact ⟨σ', H', J'.ofTry ok, q⟩
    | cont =>
      obtain ⟨σ', H', J', q⟩ := hsp
      exact ⟨σ', H', J'.ofTry ok, q⟩
    | ret u =>
      obtain ⟨v, σ', H', J', r, q⟩ := hsp
      exact ⟨v, σ', H', J'.ofTry ok, r, q⟩
end
/-! ### isinstance of a kept error -/
/-- what the written part says of the class of an error -/
structure ErrC (K : PySem.W.Frag) (C : Addr) : Prop where
  hg : PySem.W.findIn K (.ref C) "__getattribute__" = some (some (.builtin "BaseException.__getattribute__"))
  hk : PySem.W.findIn K (.ref C) "__getattr__" = some none
  hs : PySem.W.subIn K (.ref C) (.type "BaseException") = some true
  hd : PySem.W.hasDictIn K C = true
  ha : PySem.W.findIn K (.ref C) "__class__" = some (some (.builtin "object.__class__"))
  hn : PySem.W.specialIn K (.builtin "object.__class__") "__get__" = some (some (.builtin "getset_descriptor.__get__"))
  ht : PySem.W.takesIn K (.builtin "object.__class__") = some true
  hm : PySem.W.mroIn K C (.type "object") = some true
theorem kept_at {X : Cx} {pins : List (Addr × Obj)} {σ : L2.St} {H : Hp} {s : Shared} {a C d : Addr} {fs : List (Str × V)} (I : Inv X pins σ H s) (e : H a = some (kept a (.ref C) (some d))) (ed : H d = some (.xd fs)) :
    ∃ oe od, PySem.W.InstAt s.heap a oe C (some od) := by
  obtain ⟨⟨oe, h1, hz, vs, hd⟩, _⟩ := (show ObjOk X.prog X.w H s.heap a (kept a (.ref C) (some d)) from I.hok a _ e)
  obtain ⟨mA, hns, _⟩ := (show ObjOk X.prog X.w H s.heap d (.xd fs) from I.hok d _ ed)
  obtain ⟨od, _, _, ho, _⟩ := hns
  exact ⟨oe, od, h1, hz.1, by unfold PySem.W.notCls; rw [hd] <;> rfl, by rw [hz.2]; exact ho⟩
theorem ErrC.kit {K : PySem.W.Frag} {C x : Addr} {ox : Obj} {od : Option Obj} (E : ErrC K C) : PySem.W.KitX K (.ref x) (.ref C) (fun h => PySem.W.InstAt h x ox C od) :=
  PySem.W.kitx_exc (by obtain ⟨cd, hc, _⟩ := PySem.W.any_some E.hd; rw [hc]; rfl) E.hg E.hk E.hs E.ha E.hn E.ht E.hm
/-- isinstance(e, c), e a kept error of the class C -/
def rIsX (K : PySem.W.Frag) : List V → Hp → VK → Prop := fun xs H Q => ∃ (a C d : Addr) (fs : List (Str × V)) (c : V) (u : Value) (b : Bool), xs = [.ref a, c] ∧ H a = some (kept a (.ref C) (some d)) ∧ H d = some (.xd fs) ∧ ErrC K C ∧ ClsV c u ∧ PySem.W.kitOne K (.ref C) u = some b ∧ Q (.bl b) H
/-- isinstance(e, (c1, c2, ..)) -/
def rIsXT (K : PySem.W.Frag) : List V → Hp → VK → Prop := fun xs H Q => ∃ (a C d : Addr) (fs : List (Str × V)) (tp : Addr) (cs : List V) (us : List Value) (b : Bool), xs = [.ref a, .ref tp] ∧ H a = some (kept a (.ref C) (some d)) ∧ H d = some (.xd fs) ∧ ErrC K C ∧ H tp = some (.tup cs) ∧ Paired ClsV cs us ∧ PySem.W.kitAny K (.ref C) us = some b ∧ Q (.bl b) H
section
variable {X : Cx}
theorem call_isX : CallR X (.builtin "isinstance") (rIsX X.K) := by
  intro pins s σ H xs us Q I r h
  obtain ⟨a, C, d, fs, c, u, b, rfl, ea, ed, E, k, e, q⟩ := h
  obtain ⟨u1, u2, rfl, r1, r2⟩ := vals2 r
  have e2 := k.eq r2
  subst e2
  cases (show u1 = Value.ref a from r1)
  obtain ⟨oe, od, J⟩ := kept_at I ea ed
  exact PySem.W.kia_one E.kit I.kIn J e (fun z => nomatch z) fun tk => ⟨.bl b, H, I.tok tk, rfl, q⟩
theorem call_isXT : CallR X (.builtin "isinstance") (rIsXT X.K) := by
  intro pins s σ H xs us Q I r h
  obtain ⟨a, C, d, fs, tp, cs, ws, b, rfl, ea, ed, E, hT, k, e, q⟩ := h
  obtain ⟨u1, u2, rfl, r1, r2⟩ := vals2 r
  cases (show u1 = Value.ref a from r1)
  cases (show u2 = Value.ref tp from r2)
  obtain ⟨oe, od, J⟩ := kept_at I ea ed
  obtain ⟨_, its, rv, o, h1, h2, n, h3⟩ := (show ObjOk X.prog X.w H s.heap tp (.tup cs) from I.hok tp _ hT)
  have e3 := ClsV.all k rv
  subst e3
  obtain ⟨oc, od', dt, sl⟩ := o
  simp only at h2 h3
  subst h2 h3
  exact PySem.W.kia_tup E.kit I.kIn J h1 e (fun z => nomatch z) fun tk => ⟨.bl b, H, I.tok tk, rfl, q⟩
end
/-! ### defs that raise, called by name -/
structure CalX (P : Program) (w : World) (K : PySem.W.Frag) (mg : Str → Option Value) (base : Heap) (x : Str) (k : Nat) (ps : List Str) (sp : Sp) : Prop where
  ex : ∃ (f : Addr) (fd : FuncData), FnOk P w K mg base (L2.CX P w) k f fd ps sp ∧ mg x = some (.ref f) ∧ PySem.W.keepIn K (.ref f) = true ∧ Binds K fd ps []
theorem pe_calX {X : Cx} {x : Str} {k : Nat} {ps : List Str} {sp : Sp} {e : Expr} {es : List Expr} {t : TA} {W : WX} {p pos : Pos} (C : CalX X.prog X.w X.K X.mg X.base x k ps sp) (hr : Room k X.A) (tk : Takes X W)
    (ha : PA X (e :: es) t) (hg : Gl X x := by rfl) (hdb : (x == ("__debug__" : Str)) = false := by decide) (he : starEach (e :: es) X.env = (false, eval e X.env) :: starEach es X.env := by rfl) (hpl : (backTo pos (starEach es X.env)).any (·.1) = false := by rfl) :
    PE X (.Call (.Name x p) (e :: es) [] pos) (tCallS sp (WE W) t) := by
  obtain ⟨f, fd, G, g, kp, b⟩ := C.ex
  exact pe_callS G hr hg g kp b (fun σ => passAt tk σ) ha hdb he hpl
/-! ### own errors of one field -/
/-- what __init__ keeps -/
def spErr (C : Addr) (f : Str) : Sp := fun vs H Q _ => ∃ (a : Addr) (v : V), vs = [.ref a, v] ∧ H a = some (exo a C none) ∧ ∀ dx, H dx = none → dx ≠ a → Q .non (upd (upd H dx (exd dx [(f, v)])) a (exo a C (some dx)))
/-- the class of errors by the name x, its field f -/
structure ErrK (P : Program) (w : World) (K : PySem.W.Frag) (mg : Str → Option Value) (base : Heap) (x f : Str) : Prop where
  ex : ∃ (C fI : Addr) (fd : FuncData), PySem.W.nsIn K mainGlobals x = some (some (.ref C)) ∧ mg x = some (.ref C) ∧ OexC K C ∧ PySem.W.findIn K (.ref C) "__init__" = some (some (.ref fI)) ∧ PySem.W.typeIn K (.ref fI) = some (.type "function") ∧
    FnOk P w K mg base CX0 1 fI fd ["self", f] (spErr C f) ∧ Binds K fd ["self", f] []
/-- an error of the class by the name x may leave, its field f, all else as it was -/
def Lets (K : PySem.W.Frag) (x f : Str) (H : Hp) (E : XK) : Prop := ∀ (C d : Addr) (v : V) (H1 : Hp), PySem.W.nsIn K mainGlobals x = some (some (.ref C)) → Same H H1 → H1 d = none → E (.ref C) (some d) (upd H1 d (.xd [(f, v)]))
theorem Lets.same {K : PySem.W.Frag} {x f : Str} {H H2 : Hp} {E : XK} (l : Lets K x f H E) (s : Same H H2) : Lets K x f H2 E := fun C d v H1 h1 h2 h3 => l C d v H1 h1 (s.trans h2) h3
section
variable {X : Cx} {x f : Str} {e : Expr} {te : TE} {p pos : Pos}
theorem PE.more (he : PE X e te) : PE X e (fun σ H Q => ∃ Q1 : VK, te σ H Q1 ∧ ∀ v H1, Q1 v H1 → Q v H1) :=
  ⟨fun pins s σ H Q I ⟨Q1, h, k⟩ => wpAny_mono (he.run pins s σ H Q1 I h) (fun _ _ ⟨v, H', I', r, q⟩ => ⟨v, H', I', r, k _ _ q⟩) fun _ _ z => z⟩
theorem pmk_err (R : ErrK X.prog X.w X.K X.mg X.base x f) (hr : Room 2 X.A) (ha : PE X e te) (hg : Gl X x := by rfl) (hdb : (x == ("__debug__" : Str)) = false := by decide)
    (he : starEach (e :: []) X.env = (false, eval e X.env) :: starEach [] X.env := by rfl) (hpl : (backTo pos (starEach [] X.env)).any (·.1) = false := by rfl) :
    PMk X (.Call (.Name x p) [e] [] pos) (fun σ H Q => te σ H fun v H1 => ∀ C d, PySem.W.nsIn X.K mainGlobals x = some (some (.ref C)) → H1 d = none → Q (.ref C) (some d) (upd H1 d (.xd [(f, v)]))) := by
  obtain ⟨C, fI, fd, aC, gC, T, iC, tI, F, b⟩ := R.ex
  intro pins s σ H Q I h
  refine pmk_oex (dvs := []) (ds := []) T iC tI F hr b .nil pass0 hg gC (pa_cons (PE.more ha) pa_nil (hs := he)) hdb he hpl pins s σ H Q I ⟨_, h, fun v H1 q => ?_⟩
  refine ⟨(by show 1 ≤ 1000; decide), fun a na => ⟨a, v, rfl, upd_same, fun dx hd ne => ⟨rfl, dx, [(f, v)], upd_same, ?_, ?_, ?_⟩⟩⟩
  · rw [upd_ne ne, upd_same]
  · rw [upd_ne ne] at hd; exact hd
  · rw [upd_ne ne] at hd
    have z := q C dx aC hd
    have eq : upd (del (upd (upd (upd H1 a (exo a C none)) dx (exd dx [(f, v)])) a (exo a C (some dx))) a) dx (.xd [(f, v)]) = upd H1 dx (.xd [(f, v)]) := by
      funext c
      by_cases h1 : c = dx
      · rw [h1, upd_same, upd_same]
      · rw [upd_ne h1, upd_ne h1]
        by_cases h2 : c = a
        · rw [h2, del_same, na]
        · rw [del_ne h2, upd_ne h2, upd_ne h1, upd_ne h2]
    rw [eq]
    exact z
end
section
variable {X : Cx} {x : Str} {k : Nat} {ps : List Str} {sp : Sp} {e : Expr} {es : List Expr} {t : TA} {p pos : Pos}
/-- a def that may raise, called where it doesn't -/
theorem pe_calX0 (C : CalX X.prog X.w X.K X.mg X.base x k ps sp) (hr : Room k X.A)
    (ha : PA X (e :: es) t) (hg : Gl X x := by rfl) (hdb : (x == ("__debug__" : Str)) = false := by decide) (he : starEach (e :: es) X.env = (false, eval e X.env) :: starEach es X.env := by rfl) (hpl : (backTo pos (starEach es X.env)).any (·.1) = false := by rfl) :
    PE X (.Call (.Name x p) (e :: es) [] pos) (tCall sp [] E0 t) := by
  obtain ⟨f, fd, G, g, kp, b⟩ := C.ex
  exact pe_call G hr hg g kp b .nil passL ha hdb he hpl
end
theorem exm_own {K : PySem.W.Frag} {C : Addr} {cls : Value} {b : Bool} (h1 : PySem.W.subIn K (.ref C) (.type "BaseException") = some true) (hdct : PySem.W.hasDictIn K C = true) (ht : PySem.W.typeIn K (.ref C) = some (.type "type")) (h4 : PySem.W.subIn K cls (.ref C) = some b) : PySem.W.exmOne K cls (.ref C) = some b := by
  obtain ⟨cd, hc, _⟩ := PySem.W.any_some hdct
  have e1 : (PySem.W.subIn K (.ref C) (.type "BaseException") == some true) = true := by rw [h1] <;> rfl
  have e2 : ((PySem.W.clsIn K C).isSome && PySem.W.typeIn K (.ref C) == some (.type "type")) = true := by rw [hc, ht] <;> rfl
  show (if (PySem.W.subIn K (.ref C) (.type "BaseException") == some true) = true then (if ((PySem.W.clsIn K C).isSome && PySem.W.typeIn K (.ref C) == some (.type "type")) = true then PySem.W.subIn K cls (.ref C) else none) else none) = some b
  rw [if_pos e1, if_pos e2]
  exact h4
/-- one class stands by a name -/
theorem ns_one {K : PySem.W.Frag} {x : Str} {C D : Addr} (h : PySem.W.nsIn K mainGlobals x = some (some (.ref C))) (k : PySem.W.nsIn K mainGlobals x = some (some (.ref D))) : C = D := by
  rw [h] at k
  cases k
  rfl
/-! ### a field of a kept error -/
def tKf (K : PySem.W.Frag) (n : Str) (te : TE) : TE := fun σ H Q => te σ H fun x H1 => ∃ (a C d : Addr) (fs : List (Str × V)) (v : V), x = .ref a ∧ H1 a = some (kept a (.ref C) (some d)) ∧ H1 d = some (.xd fs) ∧ ErrC K C ∧ PySem.W.findIn K (.ref C) n = some none ∧ fs.lookup n = some v ∧ Q v H1
theorem pe_kf {X : Cx} {e : Expr} {te : TE} {pos : Pos} {n : Str} (he : PE X e te) (hb : attributeBase e n X.env (eval e X.env) = eval e X.env := by rfl) : PE X (.Attribute e n pos) (tKf X.K n te) := by
  refine ⟨fun pins s σ H Q I h => ?_⟩
  refine attr_of hb (thn (he.run pins s σ H _ I h) fun u s1 ⟨x, H1, I1, rx, q⟩ => ?_)
  obtain ⟨a, C, d, fs, v, rfl, ea, ed, E, hno, l, q⟩ := q
  obtain rfl : u = Value.ref a := rx
  obtain ⟨⟨oe, h1, hz, vs, hd⟩, _⟩ := (show ObjOk X.prog X.w H1 s1.heap a (kept a (.ref C) (some d)) from I1.hok a _ ea)
  obtain ⟨mA, hns, hr⟩ := (show ObjOk X.prog X.w H1 s1.heap d (.xd fs) from I1.hok d _ ed)
  obtain ⟨od, ho, hl⟩ := lookIn_ns hns
  obtain ⟨w, hu, ru⟩ := RelO.some_of (v := v) (o := mA n) (by rw [← l]; exact hr n)
  have J : PySem.W.InstAt s1.heap a oe C (some od) := ⟨h1, hz.1, by unfold PySem.W.notCls; rw [hd] <;> rfl, by rw [hz.2]; exact ho⟩
  exact HandSPX.exc_get I1.kIn J E.hg E.hk E.hs (PySem.W.findObj_own E.hd hno rfl (by rw [hl, hu])) (handed_of ru) ⟨v, H1, I1.tok _, ru, q⟩
/-! ### defs that raise, with keyword-only names; calls by names alone -/
structure CalXD (P : Program) (w : World) (K : PySem.W.Frag) (mg : Str → Option Value) (base : Heap) (x : Str) (k : Nat) (ps : List Str) (dvs : List V) (sp : Sp) : Prop where
  ex : ∃ (f : Addr) (fd : FuncData) (ds : List Value), FnOk P w K mg base (L2.CX P w) k f fd ps sp ∧ mg x = some (.ref f) ∧ PySem.W.keepIn K (.ref f) = true ∧ Vals dvs ds ∧ Binds K fd ps ds
structure CalXK (P : Program) (w : World) (K : PySem.W.Frag) (mg : Str → Option Value) (base : Heap) (x : Str) (k : Nat) (ps : List Str) (n : Nat) (ks : List Str) (sp : Sp) : Prop where
  ex : ∃ (f : Addr) (fd : FuncData) (g : List Value → List Value → List Value), FnOk P w K mg base (L2.CX P w) k f fd ps sp ∧ mg x = some (.ref f) ∧ PySem.W.keepIn K (.ref f) = true ∧ KBn K fd ps n ks g (fun vs zs => vs ++ zs)
/-- two handed in the other way about -/
def swap2 {α : Type} : List α → List α
  | [a, b] => [b, a]
  | l => l
theorem swap2_rel : ∀ {zs : List V} {ws : List Value}, Vals zs ws → Vals (swap2 zs) (swap2 ws)
  | _, _, .nil => .nil
  | _, _, .cons a .nil => .cons a .nil
  | _, _, .cons a (.cons b .nil) => .cons b (.cons a .nil)
  | _, _, .cons a (.cons b (.cons c r)) => .cons a (.cons b (.cons c r))
structure CalN (CX : CXT) (P : Program) (w : World) (K : PySem.W.Frag) (mg : Str → Option Value) (base : Heap) (x : Str) (k : Nat) (ps : List Str) (ks : List Str) (c : List V → List V) (sp : Sp) : Prop where
  ex : ∃ (f : Addr) (fd : FuncData) (g : List Value → List Value → List Value), FnOk P w K mg base CX k f fd ps sp ∧ mg x = some (.ref f) ∧ PySem.W.keepIn K (.ref f) = true ∧ KBn K fd ps 0 ks g (fun _ zs => c zs)
section
variable {X : Cx} {x : Str} {k n : Nat} {ps ks : List Str} {dvs : List V} {sp : Sp} {e : Expr} {es : List Expr} {kws : List Keyword} {t tk : TA} {p pos : Pos}
theorem pe_calXD0 (C : CalXD X.prog X.w X.K X.mg X.base x k ps dvs sp) (hr : Room k X.A)
    (ha : PA X (e :: es) t) (hg : Gl X x := by rfl) (hdb : (x == ("__debug__" : Str)) = false := by decide) (he : starEach (e :: es) X.env = (false, eval e X.env) :: starEach es X.env := by rfl) (hpl : (backTo pos (starEach es X.env)).any (·.1) = false := by rfl) :
    PE X (.Call (.Name x p) (e :: es) [] pos) (tCall sp dvs E0 t) := by
  obtain ⟨f, fd, ds, G, g, kp, hd, b⟩ := C.ex
  exact pe_call G hr hg g kp b hd passL ha hdb he hpl
theorem pe_calXK0 (C : CalXK X.prog X.w X.K X.mg X.base x k ps n ks sp) (hr : Room k X.A)
    (ha : PA X (e :: es) t) (hkw : PK X kws tk) (hg : Gl X x := by rfl) (hall : (backToKw pos (keywordEach kws X.env)).all (·.1.isSome) = true := by rfl) (hks : (backToKw pos (keywordEach kws X.env)).filterMap (·.1) = ks := by rfl)
    (hdb : (x == ("__debug__" : Str)) = false := by decide) (he : starEach (e :: es) X.env = (false, eval e X.env) :: starEach es X.env := by rfl)
    (hpl : ((backTo pos (starEach (e :: es) X.env)).any (·.1) || (backToKw pos (keywordEach kws X.env)).any (·.1.isNone)) = false := by rfl) :
    PE X (.Call (.Name x p) (e :: es) kws pos) (tCallN n ks.length sp (fun vs zs => vs ++ zs) E0 t tk) := by
  obtain ⟨f, fd, g, G, gm, kp, b⟩ := C.ex
  exact pe_callN G hr hg gm kp b passL ha hkw hall hks hdb he hpl
/-- f(e, .., k = v, ..) that may raise -/
def tCallNS (n m : Nat) (sp : Sp) (gV : List V → List V → List V) (E : L2.St → XK) (t tk : TA) : TE := fun σ H Q => t σ H fun vs H1 => tk σ H1 fun zs H2 => vs.length = n ∧ zs.length = m ∧ sp (gV vs zs) H2 Q (E σ)
theorem run_fnNS {CX : CXT} {pins : List (Addr × Obj)} {σ : L2.St} {H : Hp} {s : Shared} {Q : VK} {us ws : List Value} {vs zs : List V} {f : Addr} {fd : FuncData} {g : List Value → List Value → List Value} {gV : List V → List V → List V} {E : L2.St → XK} (F : FnOk X.prog X.w X.K X.mg X.base CX k f fd ps sp) (hr : Room k X.A) (hb : KBn X.K fd ps n ks g gV) (hx : PassesAt CX X σ (E σ))
    (I : Inv X pins σ H s) (r : Vals vs us) (rz : Vals zs ws) (l1 : vs.length = n) (l2 : zs.length = ks.length) (h : sp (gV vs zs) H Q (E σ)) : wpAny (model X.prog X.w) X.A (call (.ref f) us (ks.zip ws)) (EP X pins σ Q) X.xe s := by
  have r2 := hb.rel r rz
  refine wpAny_call (codeAny_mono (F.run X.A X.stack s H ⟨us, ks.zip ws⟩ (g us ws) (gV vs zs) Q (E σ) hr I.env0 (hb.to s us ws I.kIn (r.length.symm.trans l1) (rz.length.symm.trans l2)) r2 h) fun r s' hq => ?_)
  cases r with
  | error e => exact hx pins H s e s' I hq
  | ok fl =>
    cases fl with
    | ret u => exact I.after hq
    | next => exact False.elim hq
    | brk => exact False.elim hq
    | cont => exact False.elim hq
theorem pe_calXK {W : WX} (C : CalXK X.prog X.w X.K X.mg X.base x k ps n ks sp) (hr : Room k X.A) (tw : Takes X W)
    (ha : PA X (e :: es) t) (hkw : PK X kws tk) (hg : Gl X x := by rfl) (hall : (backToKw pos (keywordEach kws X.env)).all (·.1.isSome) = true := by rfl) (hks : (backToKw pos (keywordEach kws X.env)).filterMap (·.1) = ks := by rfl)
    (hdb : (x == ("__debug__" : Str)) = false := by decide) (he : starEach (e :: es) X.env = (false, eval e X.env) :: starEach es X.env := by rfl)
    (hpl : ((backTo pos (starEach (e :: es) X.env)).any (·.1) || (backToKw pos (keywordEach kws X.env)).any (·.1.isNone)) = false := by rfl) :
    PE X (.Call (.Name x p) (e :: es) kws pos) (tCallNS n ks.length sp (fun vs zs => vs ++ zs) (WE W) t tk) := by
  obtain ⟨f, fd, g, G, gm, kp, b⟩ := C.ex
  refine ⟨fun pins s σ H Q I h => ?_⟩
  refine wpAny_Call_Name_kw (ld_glob I hg gm ?_ hdb)
  refine PySem.W.callWith_KW (h₀ := X.base) I.ok.mod.kin kp hall (thn (ha.run pos pins s σ H _ I h) fun us s1 ⟨vs, H1, I1, r, q⟩ => ?_) hpl he
  refine thn (hkw.run pos pins s1 σ H1 _ I1 q) fun ws s2 ⟨zs, H2, I2, rz, l1, l2, q2⟩ => ⟨I2.kIn, ?_⟩
  rw [hks]
  exact run_fnNS G hr b (passAt tw σ) I2 r rz l1 l2 q2
/-- f(k = v, ..), by names alone -/
theorem pe_calN {CX : CXT} {c : List V → List V} (C : CalN CX X.prog X.w X.K X.mg X.base x k ps ks c sp) (hr : Room k X.A) (hx : Passes CX X E0) (hkw : PK X kws tk) (hg : Gl X x := by rfl)
    (hall : (backToKw pos (keywordEach kws X.env)).all (·.1.isSome) = true := by rfl) (hks : (backToKw pos (keywordEach kws X.env)).filterMap (·.1) = ks := by rfl) (hdb : (x == ("__debug__" : Str)) = false := by decide)
    (hpl : ((backTo pos (starEach [] X.env)).any (·.1) || (backToKw pos (keywordEach kws X.env)).any (·.1.isNone)) = false := by rfl) :
    PE X (.Call (.Name x p) [] kws pos) (fun σ H Q => tk σ H fun zs H2 => zs.length = ks.length ∧ sp (c zs) H2 Q E0) := by
  obtain ⟨f, fd, g, G, gm, kp, b⟩ := C.ex
  refine ⟨fun pins s σ H Q I h => ?_⟩
  refine wpAny_Call_Name_kw (ld_glob I hg gm ?_ hdb)
  refine PySem.W.callWith_KW0 (h₀ := X.base) I.ok.mod.kin kp hall ?_ hpl
  refine thn (hkw.run pos pins s σ H _ I h) fun ws s2 ⟨zs, H2, I2, rz, l2, q2⟩ => ⟨I2.kIn, ?_⟩
  rw [hks]
  exact run_fnN (us := []) (vs := []) G hr b hx I2 .nil rz rfl l2 q2
end
/-! ### data in the heap: None, truths, ints, texts, lists, tuples, empty dicts -/
mutual
inductive Dx (H : Hp) : V → PyData → Prop where
  | non : Dx H .non .none
  | bl (b : Bool) : Dx H (.bl b) (.bool b)
  | int (i : Int) : Dx H (.int i) (.int i)
  | str (x : Str) : Dx H (.str x) (.str x)
  | lst {a : Addr} {xs : List V} {ds : List PyData} (e : H a = some (.lst xs)) (h : DxAll H xs ds) : Dx H (.ref a) (.list ds)
  | tup {a : Addr} {xs : List V} {ds : List PyData} (e : H a = some (.tup xs)) (h : DxAll H xs ds) : Dx H (.ref a) (.tuple ds)
  | dk {a : Addr} (e : H a = some (.dK [])) : Dx H (.ref a) (.dict [])
inductive DxAll (H : Hp) : List V → List PyData → Prop where
  | nil : DxAll H [] []
  | cons {v : V} {vs : List V} {d : PyData} {ds : List PyData} (h : Dx H v d) (k : DxAll H vs ds) : DxAll H (v :: vs) (d :: ds)
end
mutual
theorem Dx.same {H H' : Hp} (s : Same H H') : ∀ {v : V} {d : PyData}, Dx H v d → Dx H' v d
  | _, _, .non => .non
  | _, _, .bl b => .bl b
  | _, _, .int i => .int i
  | _, _, .str x => .str x
  | _, _, .lst e h => .lst (s _ _ e) (DxAll.same s h)
  | _, _, .tup e h => .tup (s _ _ e) (DxAll.same s h)
  | _, _, .dk e => .dk (s _ _ e)
theorem DxAll.same {H H' : Hp} (s : Same H H') : ∀ {vs : List V} {ds : List PyData}, DxAll H vs ds → DxAll H' vs ds
  | _, _, .nil => .nil
  | _, _, .cons h k => .cons (Dx.same s h) (DxAll.same s k)
end
theorem DxAll.length {H : Hp} : ∀ {vs : List V} {ds : List PyData}, DxAll H vs ds → vs.length = ds.length
  | _, _, .nil => rfl
  | _, _, .cons _ k => by rw [List.length_cons, List.length_cons, k.length]
theorem DxAll.at {H : Hp} : ∀ {vs : List V} {ds : List PyData}, DxAll H vs ds → ∀ {i : Nat} {v : V}, vs[i]? = some v → ∃ d, ds[i]? = some d ∧ Dx H v d
  | _, _, .nil, _, _, e => nomatch e
  | _, _, .cons h _, 0, _, e => ⟨_, rfl, Option.some.inj e ▸ h⟩
  | _, _, .cons _ k, i + 1, _, e => k.at (i := i) e
theorem DxAll.at' {H : Hp} : ∀ {vs : List V} {ds : List PyData}, DxAll H vs ds → ∀ {i : Nat} {d : PyData}, ds[i]? = some d → ∃ v, vs[i]? = some v ∧ Dx H v d
  | _, _, .nil, _, _, e => nomatch e
  | _, _, .cons h _, 0, _, e => ⟨_, rfl, Option.some.inj e ▸ h⟩
  | _, _, .cons _ k, i + 1, _, e => k.at' (i := i) e
theorem DxAll.mem {H : Hp} : ∀ {vs : List V} {ds : List PyData}, DxAll H vs ds → ∀ {v : V}, v ∈ vs → ∃ d, d ∈ ds ∧ Dx H v d
  | _, _, .nil, _, e => nomatch e
  | _, _, .cons h k, v, e => by
    rcases List.mem_cons.mp e with z | z
    · subst z; exact ⟨_, List.mem_cons_self .., h⟩
    · obtain ⟨d, m, q⟩ := k.mem z
      exact ⟨d, List.mem_cons_of_mem _ m, q⟩
theorem DxAll.app {H : Hp} : ∀ {vs us : List V} {ds es : List PyData}, DxAll H vs ds → DxAll H us es → DxAll H (vs ++ us) (ds ++ es)
  | _, _, _, _, .nil, q => q
  | _, _, _, _, .cons h k, q => .cons h (k.app q)
theorem DxAll.take {H : Hp} : ∀ {vs : List V} {ds : List PyData} (n : Nat), DxAll H vs ds → DxAll H (vs.take n) (ds.take n)
  | _, _, 0, _ => .nil
  | _, _, _ + 1, .nil => .nil
  | _, _, n + 1, .cons h k => .cons h (DxAll.take n k)
theorem DxAll.drop {H : Hp} : ∀ {vs : List V} {ds : List PyData} (n : Nat), DxAll H vs ds → DxAll H (vs.drop n) (ds.drop n)
  | _, _, 0, q => q
  | _, _, _ + 1, .nil => .nil
  | _, _, n + 1, .cons _ k => DxAll.drop n k
theorem DxAll.set {H : Hp} : ∀ {vs : List V} {ds : List PyData} (n : Nat) {v : V} {d : PyData}, DxAll H vs ds → Dx H v d → DxAll H (vs.set n v) (ds.set n d)
  | _, _, _, _, _, .nil, _ => .nil
  | _, _, 0, _, _, .cons _ k, q => .cons q k
  | _, _, n + 1, _, _, .cons h k, q => .cons h (DxAll.set n k q)
theorem DxAll.rep {H : Hp} {vs : List V} {ds : List PyData} (h : DxAll H vs ds) : ∀ n : Nat, DxAll H (List.replicate n vs).flatten (List.replicate n ds).flatten
  | 0 => .nil
  | n + 1 => by
    rw [List.replicate_succ, List.replicate_succ, List.flatten_cons, List.flatten_cons]
    exact h.app (DxAll.rep h n)
theorem Dx.kd {H : Hp} {v : V} {d : PyData} (h : Dx H v d) : Kd H v := by
  cases h with
  | non => exact .non
  | bl b => exact .bl b
  | int i => exact .int i
  | str x => exact .str x
  | lst e _ => exact .lst e
  | tup e _ => exact .tup e
  | dk e => exact .dk e
mutual
theorem Dx.dp {K : PySem.W.Frag} {H : Hp} : ∀ {v : V} {d : PyData}, Dx H v d → d.hasDict = false → Dp K H v d
  | _, _, .non, _ => .non
  | _, _, .bl b, _ => .bl b
  | _, _, .int i, _ => .int i
  | _, _, .str x, _ => .str x
  | _, _, .lst e h, z => .lst (.of e) (DxAll.dp h (by simpa [PyData.hasDict] using z))
  | _, _, .tup e h, z => .tup (.of e) (DxAll.dp h (by simpa [PyData.hasDict] using z))
  | _, _, .dk _, z => by simp [PyData.hasDict] at z
theorem DxAll.dp {K : PySem.W.Frag} {H : Hp} : ∀ {vs : List V} {ds : List PyData}, DxAll H vs ds → PyData.hasDictAll ds = false → DpAll K H vs ds
  | _, _, .nil, _ => .nil
  | _, _, .cons h k, z => by
    simp only [PyData.hasDictAll, Bool.or_eq_false_iff] at z
    exact .cons (Dx.dp h z.1) (DxAll.dp k z.2)
end
mutual
theorem Dx.one {H : Hp} : ∀ {v : V} {d d' : PyData}, Dx H v d → Dx H v d' → d = d'
  | _, _, _, .non, h => by cases h; rfl
  | _, _, _, .bl b, h => by cases h; rfl
  | _, _, _, .int i, h => by cases h; rfl
  | _, _, _, .str x, h => by cases h; rfl
  | _, _, _, .lst e k, h => by
    cases h with
    | lst e' k' => rw [e] at e'; cases e'; rw [DxAll.one k k']
    | tup e' _ => rw [e] at e'; cases e'
    | dk e' => rw [e] at e'; cases e'
  | _, _, _, .tup e k, h => by
    cases h with
    | tup e' k' => rw [e] at e'; cases e'; rw [DxAll.one k k']
    | lst e' _ => rw [e] at e'; cases e'
    | dk e' => rw [e] at e'; cases e'
  | _, _, _, .dk e, h => by
    cases h with
    | dk e' => rfl
    | lst e' _ => rw [e] at e'; cases e'
    | tup e' _ => rw [e] at e'; cases e'
theorem DxAll.one {H : Hp} : ∀ {vs : List V} {ds ds' : List PyData}, DxAll H vs ds → DxAll H vs ds' → ds = ds'
  | _, _, _, .nil, h => by cases h; rfl
  | _, _, _, .cons h k, q => by
    cases q with
    | cons h' k' => rw [Dx.one h h', DxAll.one k k']
end
/-! ### its kind asked -/
def dTup : PyData → Bool | .tuple _ => true | _ => false
def dLst : PyData → Bool | .list _ => true | _ => false
def dStr : PyData → Bool | .str _ => true | _ => false
def dInt : PyData → Bool | .int _ => true | .bool _ => true | _ => false
def dBool : PyData → Bool | .bool _ => true | _ => false
def dDict : PyData → Bool | .dict _ => true | _ => false
section
variable {K : PySem.W.Frag} {H : Hp} {v : V} {d : PyData}
theorem Dx.tup? (h : Dx H v d) : ∃ t, TyX K H v t ∧ PySem.W.kitOne K t (.type "tuple") = some (dTup d) := by
  cases h with
  | non => exact ⟨_, .base .non, kit_ty (by decide +kernel)⟩
  | bl b => exact ⟨_, .base (.bl b), kit_ty (r := false) (by decide +kernel)⟩
  | int i => exact ⟨_, .base (.int i), kit_ty (r := false) (by decide +kernel)⟩
  | str x => exact ⟨_, .base (.str x), kit_ty (r := false) (by decide +kernel)⟩
  | lst e => exact ⟨_, .base (.lst e), kit_ty (r := false) (by decide +kernel)⟩
  | tup e => exact ⟨_, .base (.tup e), kit_ty (r := true) (by decide +kernel)⟩
  | dk e => exact ⟨_, .base (.dK e), kit_ty (r := false) (by decide +kernel)⟩
theorem Dx.lst? (h : Dx H v d) : ∃ t, TyX K H v t ∧ PySem.W.kitOne K t (.type "list") = some (dLst d) := by
  cases h with
  | non => exact ⟨_, .base .non, kit_ty (by decide +kernel)⟩
  | bl b => exact ⟨_, .base (.bl b), kit_ty (r := false) (by decide +kernel)⟩
  | int i => exact ⟨_, .base (.int i), kit_ty (r := false) (by decide +kernel)⟩
  | str x => exact ⟨_, .base (.str x), kit_ty (r := false) (by decide +kernel)⟩
  | lst e => exact ⟨_, .base (.lst e), kit_ty (r := true) (by decide +kernel)⟩
  | tup e => exact ⟨_, .base (.tup e), kit_ty (r := false) (by decide +kernel)⟩
  | dk e => exact ⟨_, .base (.dK e), kit_ty (r := false) (by decide +kernel)⟩
theorem Dx.dict? (h : Dx H v d) : ∃ t, TyX K H v t ∧ PySem.W.kitOne K t (.type "dict") = some (dDict d) := by
  cases h with
  | non => exact ⟨_, .base .non, kit_ty (by decide +kernel)⟩
  | bl b => exact ⟨_, .base (.bl b), kit_ty (r := false) (by decide +kernel)⟩
  | int i => exact ⟨_, .base (.int i), kit_ty (r := false) (by decide +kernel)⟩
  | str x => exact ⟨_, .base (.str x), kit_ty (r := false) (by decide +kernel)⟩
  | lst e => exact ⟨_, .base (.lst e), kit_ty (r := false) (by decide +kernel)⟩
  | tup e => exact ⟨_, .base (.tup e), kit_ty (r := false) (by decide +kernel)⟩
  | dk e => exact ⟨_, .base (.dK e), kit_ty (r := true) (by decide +kernel)⟩
theorem Dx.str? (h : Dx H v d) : ∃ t, TyX K H v t ∧ PySem.W.kitOne K t (.type "str") = some (dStr d) := by
  cases h with
  | non => exact ⟨_, .base .non, kit_ty (by decide +kernel)⟩
  | bl b => exact ⟨_, .base (.bl b), kit_ty (r := false) (by decide +kernel)⟩
  | int i => exact ⟨_, .base (.int i), kit_ty (r := false) (by decide +kernel)⟩
  | str x => exact ⟨_, .base (.str x), kit_ty (r := true) (by decide +kernel)⟩
  | lst e => exact ⟨_, .base (.lst e), kit_ty (r := false) (by decide +kernel)⟩
  | tup e => exact ⟨_, .base (.tup e), kit_ty (r := false) (by decide +kernel)⟩
  | dk e => exact ⟨_, .base (.dK e), kit_ty (r := false) (by decide +kernel)⟩
theorem Dx.int? (h : Dx H v d) : ∃ t, TyX K H v t ∧ PySem.W.kitOne K t (.type "int") = some (dInt d) := by
  cases h with
  | non => exact ⟨_, .base .non, kit_ty (by decide +kernel)⟩
  | bl b => exact ⟨_, .base (.bl b), kit_ty (r := true) (by decide +kernel)⟩
  | int i => exact ⟨_, .base (.int i), kit_ty (r := true) (by decide +kernel)⟩
  | str x => exact ⟨_, .base (.str x), kit_ty (r := false) (by decide +kernel)⟩
  | lst e => exact ⟨_, .base (.lst e), kit_ty (r := false) (by decide +kernel)⟩
  | tup e => exact ⟨_, .base (.tup e), kit_ty (r := false) (by decide +kernel)⟩
  | dk e => exact ⟨_, .base (.dK e), kit_ty (r := false) (by decide +kernel)⟩
theorem Dx.bool? (h : Dx H v d) : ∃ t, TyX K H v t ∧ PySem.W.kitOne K t (.type "bool") = some (dBool d) := by
  cases h with
  | non => exact ⟨_, .base .non, kit_ty (by decide +kernel)⟩
  | bl b => exact ⟨_, .base (.bl b), kit_ty (r := true) (by decide +kernel)⟩
  | int i => exact ⟨_, .base (.int i), kit_ty (r := false) (by decide +kernel)⟩
  | str x => exact ⟨_, .base (.str x), kit_ty (r := false) (by decide +kernel)⟩
  | lst e => exact ⟨_, .base (.lst e), kit_ty (r := false) (by decide +kernel)⟩
  | tup e => exact ⟨_, .base (.tup e), kit_ty (r := false) (by decide +kernel)⟩
  | dk e => exact ⟨_, .base (.dK e), kit_ty (r := false) (by decide +kernel)⟩
end
theorem Dx.int_of {H : Hp} {v : V} {i : Int} (h : Dx H v (.int i)) : v = .int i := by cases h; rfl
theorem Dx.str_of {H : Hp} {v : V} {s : Str} (h : Dx H v (.str s)) : v = .str s := by cases h; rfl
theorem Dx.tup_of {H : Hp} {v : V} {ds : List PyData} (h : Dx H v (.tuple ds)) : ∃ p xs, v = .ref p ∧ H p = some (.tup xs) ∧ DxAll H xs ds := by
  cases h with
  | tup e k => exact ⟨_, _, rfl, e, k⟩
theorem Dx.lst_of {H : Hp} {v : V} {ds : List PyData} (h : Dx H v (.list ds)) : ∃ p xs, v = .ref p ∧ H p = some (.lst xs) ∧ DxAll H xs ds := by
  cases h with
  | lst e k => exact ⟨_, _, rfl, e, k⟩
/-! ### shown -/
/-- small enough to be shown: its weight, its depth -/
structure Fit (n k : Nat) (d : PyData) : Prop where
  sh : d.showable = true
  lv : d.leavesShort 600 = true
  wt : d.weight ≤ n
  dp : d.depth ≤ k
structure FitAll (n k : Nat) (ds : List PyData) : Prop where
  sh : PyData.showableAll ds = true
  lv : PyData.leavesShortAll 600 ds = true
  wt : PyData.weightAll ds ≤ n
  dp : PyData.depthAll ds ≤ k
theorem Fit.mono {n k n' k' : Nat} {d : PyData} (f : Fit n k d) (h : n ≤ n') (h2 : k ≤ k') : Fit n' k' d := ⟨f.sh, f.lv, Nat.le_trans f.wt h, Nat.le_trans f.dp h2⟩
theorem FitAll.nil {n k : Nat} : FitAll n k [] := ⟨by simp [PyData.showableAll], by simp [PyData.leavesShortAll], by simp [PyData.weightAll], by simp [PyData.depthAll]⟩
theorem FitAll.cons {n m k : Nat} {d : PyData} {ds : List PyData} (f : Fit n k d) (g : FitAll m k ds) : FitAll (n + 1 + m) k (d :: ds) :=
  ⟨by simp [PyData.showableAll, f.sh, g.sh], by simp [PyData.leavesShortAll, f.lv, g.lv], by simp only [PyData.weightAll]; have := f.wt; have := g.wt; omega, by simp only [PyData.depthAll]; have := f.dp; have := g.dp; omega⟩
theorem FitAll.of {n k : Nat} : ∀ {ds : List PyData}, (∀ d ∈ ds, Fit n k d) → FitAll ((n + 1) * ds.length) k ds
  | [], _ => .nil
  | d :: ds, h => by
    have f := h d (List.mem_cons_self ..)
    have g := FitAll.of fun x hx => h x (List.mem_cons_of_mem _ hx)
    have c := FitAll.cons f g
    refine ⟨c.sh, c.lv, ?_, c.dp⟩
    rw [List.length_cons, Nat.mul_add, Nat.mul_one]
    have := c.wt
    omega
theorem FitAll.mono {n k n' k' : Nat} {ds : List PyData} (f : FitAll n k ds) (h : n ≤ n') (h2 : k ≤ k') : FitAll n' k' ds := ⟨f.sh, f.lv, Nat.le_trans f.wt h, Nat.le_trans f.dp h2⟩
theorem FitAll.list {n k : Nat} {ds : List PyData} (f : FitAll n k ds) : Fit n (k + 1) (.list ds) := ⟨by simp only [PyData.showable]; exact f.sh, by simp only [PyData.leavesShort]; exact f.lv, by simp only [PyData.weight]; exact f.wt, by simp only [PyData.depth]; have := f.dp; omega⟩
theorem FitAll.tuple {n k : Nat} {ds : List PyData} (f : FitAll n k ds) : Fit n (k + 1) (.tuple ds) := ⟨by simp only [PyData.showable]; exact f.sh, by simp only [PyData.leavesShort]; exact f.lv, by simp only [PyData.weight]; exact f.wt, by simp only [PyData.depth]; have := f.dp; omega⟩
theorem Fit.line {n k : Nat} {d : PyData} (f : Fit n k d) (h : n ≤ 25000) : d.shown.length ≤ sizeLine := by
  have := PyData.shown_le 600 (by decide) d f.lv
  have := f.wt
  rw [sizeLine_eq]; omega
structure Nice (n k : Nat) (d : PyData) : Prop where
  ft : Fit n k d
  ly : d.canLay0 = true
structure NiceAll (n k : Nat) (ds : List PyData) : Prop where
  ft : FitAll n k ds
  ly : PyData.canLayAll0 ds = true
theorem Nice.mono {n k n' k' : Nat} {d : PyData} (f : Nice n k d) (h : n ≤ n') (h2 : k ≤ k') : Nice n' k' d := ⟨f.ft.mono h h2, f.ly⟩
theorem NiceAll.mono {n k n' k' : Nat} {ds : List PyData} (f : NiceAll n k ds) (h : n ≤ n') (h2 : k ≤ k') : NiceAll n' k' ds := ⟨f.ft.mono h h2, f.ly⟩
theorem NiceAll.nil {n k : Nat} : NiceAll n k [] := ⟨.nil, by simp [PyData.canLayAll0]⟩
theorem NiceAll.cons {n m k : Nat} {d : PyData} {ds : List PyData} (f : Nice n k d) (g : NiceAll m k ds) : NiceAll (n + 1 + m) k (d :: ds) := ⟨.cons f.ft g.ft, by simp [PyData.canLayAll0, f.ly, g.ly]⟩
theorem NiceAll.list {n k : Nat} {ds : List PyData} (f : NiceAll n k ds) : Nice n (k + 1) (.list ds) := ⟨f.ft.list, by simp only [PyData.canLay0]; exact f.ly⟩
theorem NiceAll.tuple {n k : Nat} {ds : List PyData} (f : NiceAll n k ds) : Nice n (k + 1) (.tuple ds) := ⟨f.ft.tuple, by simp only [PyData.canLay0]; exact f.ly⟩
theorem NiceAll.mem {n k : Nat} : ∀ {ds : List PyData}, NiceAll n k ds → ∀ {d : PyData}, d ∈ ds → Nice n k d
  | x :: r, h, d, m => by
    have h1 := h.ft.sh; have h2 := h.ft.lv; have h3 := h.ft.wt; have h4 := h.ft.dp; have h5 := h.ly
    simp only [PyData.showableAll, PyData.leavesShortAll, PyData.weightAll, PyData.depthAll, PyData.canLayAll0, Bool.and_eq_true] at h1 h2 h3 h4 h5
    rcases List.mem_cons.mp m with e | e
    · subst e
      exact ⟨⟨h1.1, h2.1, by omega, by omega⟩, h5.1⟩
    · have g : NiceAll n k r := ⟨⟨h1.2, h2.2, by omega, by omega⟩, h5.2⟩
      exact g.mem e
theorem NiceAll.of {n k : Nat} : ∀ {ds : List PyData}, (∀ d ∈ ds, Nice n k d) → NiceAll ((n + 1) * ds.length) k ds := fun {ds} h =>
  ⟨.of fun d hd => (h d hd).ft, by
    induction ds with
    | nil => simp [PyData.canLayAll0]
    | cons x r ih =>
      simp only [PyData.canLayAll0, (h x (List.mem_cons_self ..)).ly, ih fun d hd => h d (List.mem_cons_of_mem _ hd), Bool.and_self]⟩
theorem nice_none {n k : Nat} : Nice n k .none := ⟨⟨by simp [PyData.showable], by decide +kernel, by simp [PyData.weight], by simp [PyData.depth]⟩, by simp [PyData.canLay0]⟩
theorem nice_bool {n k : Nat} (b : Bool) : Nice n k (.bool b) := ⟨⟨by simp [PyData.showable], by cases b <;> decide +kernel, by simp [PyData.weight], by simp [PyData.depth]⟩, by simp [PyData.canLay0]⟩
theorem nice_int {i : Int} {m k : Nat} (h : i.natAbs < 2 ^ m) (hm : m ≤ 160) : Nice m k (.int i) := by
  have h2 : (2 : Nat) ^ m ≤ 2 ^ 160 := Nat.pow_le_pow_right (by decide) hm
  have h3 : (2 : Nat) ^ 160 = 16 ^ 40 := by rw [show (16 : Nat) = 2 ^ 4 by decide, ← Nat.pow_mul]
  have l : i.natAbs ≠ 0 → i.natAbs.log2 < m := fun z => (Nat.log2_lt z).mpr h
  have l0 : i.natAbs = 0 → i.natAbs.log2 = 0 := fun z => by rw [z]; decide
  have e : (PyData.int i).shown.length ≤ 60 := by
    simp only [PyData.shown]
    have h4 : i.natAbs < 10 ^ 49 := Nat.lt_of_lt_of_le h (Nat.le_trans h2 (by decide))
    have e2 := int_text_length_le10 (k := 49) (by decide) h4
    rw [PySem.ofString_length]; omega
  refine ⟨⟨?_, ?_, ?_, by simp [PyData.depth]⟩, by simp [PyData.canLay0]⟩
  · have lm : i.natAbs.log2 ≤ m := by
      by_cases z : i.natAbs = 0
      · rw [l0 z]; omega
      · have := l z; omega
    simp only [PyData.showable]
    exact decide_eq_true (by omega)
  · simp only [PyData.leavesShort]; exact decide_eq_true (by omega)
  · simp only [PyData.weight]
    split
    · omega
    · rename_i z
      have : i.natAbs ≠ 0 := fun y => z (by simpa using y)
      have := l this
      omega
theorem nice_str {z : Str} {n k : Nat} (h : PyData.strOk z = true) (hn : z.cps.size ≤ n) : Nice n k (.str z) := by
  refine ⟨⟨by simp [PyData.showable], ?_, by simp only [PyData.weight]; exact hn, by simp [PyData.depth]⟩, by simp only [PyData.canLay0]; exact h⟩
  simp only [PyData.leavesShort]
  rw [List.all_eq_true]
  intro c hc
  unfold PyData.strOk at h
  rw [Array.all_eq_true_iff_forall_mem] at h
  have := of_decide_eq_true (h c (by simpa using hc))
  exact decide_eq_true (Nat.lt_trans this (by decide))
theorem nice_lit {z : Str} {n k : Nat} (h : (PyData.strOk z && decide (z.cps.size ≤ n)) = true) : Nice n k (.str z) := by
  rw [Bool.and_eq_true, decide_eq_true_iff] at h
  exact nice_str h.1 h.2
mutual
theorem lay_nodict : ∀ {d : PyData}, d.canLay0 = true → d.hasDict = false
  | .none, _ => by simp [PyData.hasDict]
  | .bool _, _ => by simp [PyData.hasDict]
  | .int _, _ => by simp [PyData.hasDict]
  | .str _, _ => by simp [PyData.hasDict]
  | .list ds, h => by simp only [PyData.canLay0, PyData.hasDict] at *; exact layAll_nodict h
  | .tuple ds, h => by simp only [PyData.canLay0, PyData.hasDict] at *; exact layAll_nodict h
  | .dict _, h => by simp [PyData.canLay0] at h
theorem layAll_nodict : ∀ {ds : List PyData}, PyData.canLayAll0 ds = true → PyData.hasDictAll ds = false
  | [], _ => by simp [PyData.hasDictAll]
  | d :: ds, h => by
    simp only [PyData.canLayAll0, PyData.hasDictAll, Bool.and_eq_true, Bool.or_eq_false_iff] at *
    exact ⟨lay_nodict h.1, layAll_nodict h.2⟩
end
theorem Nice.shaped {n k : Nat} {d : PyData} (f : Nice n k d) (h : k ≤ 64) : SeqAt.shaped d = true := by
  unfold SeqAt.shaped
  rw [f.ly]
  have := f.ft.dp
  simp; omega
theorem Nice.nd {n k : Nat} {d : PyData} (f : Nice n k d) : d.hasDict = false := lay_nodict f.ly
/-! ### the same, and where the modules' own dict stands: repr of data with dicts -/
def SysAt (K : PySem.W.Frag) (H : Hp) : Prop := (∃ o, K.lookup sysModules = some o) ∨ ∃ o u, H sysModules = some (.frz o u)
theorem SysAt.same {K : PySem.W.Frag} {H H' : Hp} (y : SysAt K H) (s : Same H H') : SysAt K H' := by
  rcases y with y | ⟨o, u, y⟩
  · exact .inl y
  · exact .inr ⟨o, u, s _ _ y⟩
theorem SysAt.but {K : PySem.W.Frag} {H H' : Hp} {p : Addr} {xs : List V} (y : SysAt K H) (hp : H p = some (.lst xs)) (s : But p H H') : SysAt K H' := by
  rcases y with y | ⟨o, u, y⟩
  · exact .inl y
  · exact .inr ⟨o, u, s _ _ (fun e => by rw [e, hp] at y; cases y) y⟩
structure ScrS (P : Program) (w : World) (K : PySem.W.Frag) (h : Heap) (a : Addr) (ns : List Int) (H : Hp) : Prop where
  only : ∀ b, H b = none ∨ ∃ o u, H b = some (.frz o u)
  seq : SqL K H a (ns.map V.int)
  ok : HOk P w H h
  at' : ∀ b, H b ≠ none → K.lookup b = none ∧ (b = a ∨ b = sysModules)
  sys : SysAt K H
theorem scrS {P : Program} {w : World} {K : PySem.W.Frag} {h : Heap} {a : Addr} {vs : List Value} {ns : List Int} {os : Obj} (KX : K.In h)
    (ha : h.get? a = some { cls := .type "list", data := .seq vs.toArray }) (hi : IntsAre vs ns) (hl : ns.length ≤ sizeLine) (hs : h.get? sysModules = some os) (na : a ≠ sysModules) : ∃ H, ScrS P w K h a ns H := by
  obtain ⟨G, C⟩ := scr (P := P) (w := w) KX ha hi hl
  have ok0 : ∀ b, G b ≠ none → K.lookup b = none ∧ (b = a ∨ b = sysModules) := fun b e => by
    obtain ⟨z1, z2⟩ := C.at' b e
    subst z1
    exact ⟨z2, .inl rfl⟩
  have on0 : ∀ b, G b = none ∨ ∃ o u, G b = some (.frz o u) := fun b => by
    rcases C.only b with z | ⟨o, xs, z⟩
    · exact .inl z
    · exact .inr ⟨o, _, z⟩
  cases inK : K.lookup sysModules with
  | some o => exact ⟨G, on0, C.seq, C.ok, ok0, .inl ⟨o, inK⟩⟩
  | none =>
    have g1 : G sysModules = none := by
      cases e : G sysModules with
      | none => rfl
      | some o => exact absurd (C.at' sysModules (by rw [e]; exact fun z => nomatch z)).1.symm na
    refine ⟨upd G sysModules (.frz os (.own 0)), fun b => ?_, ?_, fun b o e => ?_, fun b e => ?_, .inr ⟨_, _, upd_same⟩⟩
    · rcases Decidable.em (b = sysModules) with z | z
      · subst z; exact .inr ⟨_, _, upd_same⟩
      · rw [upd_ne z]; exact on0 b
    · exact (same_new g1).seq C.seq
    · rcases Decidable.em (b = sysModules) with z | z
      · subst z
        rw [upd_same] at e
        cases e
        exact ⟨hs, ⟨_, hs⟩⟩
      · rw [upd_ne z] at e
        have k := C.ok b o e
        rcases C.only b with y | ⟨o', xs, y⟩
        · rw [y] at e; cases e
        · rw [y] at e; cases e; exact k
    · rcases Decidable.em (b = sysModules) with z | z
      · subst z; exact ⟨inK, .inr rfl⟩
      · rw [upd_ne z] at e; exact ok0 b e
theorem call_scrS {P : Program} {w : World} {K : PySem.W.Frag} {mg mb : Str → Option Value} {fa a : Addr} {s₁ : Shared} {vs : List Value} {ns : List Int}
    (KX : K.In s₁.heap) (hns : s₁.heap.Ns mainGlobals mg) (hb : s₁.heap.Ns builtinsNs mb) (hbb : ∀ x : Str, x ≠ "__name__" → mb x = bootBuiltins x) (hlim : s₁.heap.NoLimit) (hg : s₁.gens = #[]) (hsr : s₁.heap.NoSeer)
    (ha : s₁.heap.get? a = some { cls := .type "list", data := .seq vs.toArray }) (hi : IntsAre vs ns) (hl : ns.length ≤ sizeLine)
    (B : ∀ base H, K.In base → base.Ns mainGlobals mg → Env0 P w K mg base callerA [] s₁ H → SqL K H a (ns.map V.int) → SysAt K H →
      codeAny (model P w) callerA (.call (.ref fa) ⟨[.ref a], []⟩) (CR CX0 [] P w H s₁ (fun v _ => v = .bl true) fun _ _ _ => False) s₁) :
    codeAny (model P w) callerA (.call (.ref fa) ⟨[.ref a], []⟩) (fun r s' => r = .ok (.ret (.bool true)) ∧ OldK s₁.heap s'.heap ∧ s'.os = s₁.os ∧ AllBare s'.gens) s₁ := by
  obtain ⟨mm, ⟨os, ses, sep, hs, sd, _⟩, _⟩ := hsr.mods
  have na : a ≠ sysModules := fun e => by
    rw [e, hs] at ha
    have := Option.some.inj ha
    rw [this] at sd
    cases sd
  obtain ⟨H, C⟩ := scrS (P := P) (w := w) KX ha hi hl hs na
  have free : ∀ b o, s₁.heap.get? b = some o → b ≠ sysModules → (∀ n, o.data ≠ .seq vs.toArray n) → H b = none := fun b o e ns nd => by
    rcases Decidable.em (H b = none) with z | z
    · exact z
    · rcases (C.at' b z).2 with q | q
      · subst q
        rw [ha] at e
        cases e
        exact absurd rfl (nd _)
      · exact absurd q ns
  have ns_of : ∀ L m, L ≠ sysModules → s₁.heap.Ns L m → (hidT s₁.heap H).Ns L m := fun L m nl n => by
    obtain ⟨o, es, ep, e, d, r⟩ := n
    exact ⟨o, es, ep, hidT_get e (free _ _ e nl fun k z => by rw [d] at z; cases z), d, r⟩
  have kin : K.In (hidT s₁.heap H) := fun b o e => by
    refine hidT_get (KX b o e) ?_
    rcases Decidable.em (H b = none) with z | z
    · exact z
    · rw [(C.at' b z).1] at e; cases e
  obtain ⟨mc, l1, l2⟩ := hlim
  have e0 : Env0 P w K mg (hidT s₁.heap H) callerA [] s₁ H :=
    ⟨rfl, ⟨kin, ns_of _ _ (by decide) hns, ⟨mb, ns_of _ _ (by decide) hb, hbb⟩, mc, ns_of _ _ (by decide) l1, l2⟩, fun b o e => of_hidT e, Nat.le_of_eq (hidT_size _ _), trivial, fun b z => absurd (show b ∈ ([] : List Addr) from z) (by simp), C.ok, AllBare.of_eq hg⟩
  refine codeAny_mono (B _ H kin (ns_of _ _ (by decide) hns) e0 C.seq C.sys) fun r s' got => ?_
  match r, got with
  | .ok (.ret u), ⟨v, H', os', bare, un, hok', rv, q⟩ =>
    cases q
    cases rv
    refine ⟨rfl, OldK.of_keep fun b o e => ?_, os', bare⟩
    rcases C.only b with z | ⟨ob, xs, z⟩
    · exact un.keep b o e z (fun y => nomatch y) (fun y => nomatch y)
    · have o1 := (C.ok b _ z).1
      have o2 := (hok' b _ (un.frzs b ob _ z)).1
      have := Option.some.inj (o1.symm.trans e)
      subst this
      exact o2
  | .ok .next, z => exact False.elim z
  | .ok .brk, z => exact False.elim z
  | .ok .cont, z => exact False.elim z
  | .error e, z => exact False.elim z
theorem walk_scrS {l : PySem.W.OpenLaw} {n : Nat} {q : Program} {loose : List Str} {XP : (Str → Option Value) → Heap → Prop} {YP : World → Heap → Prop} {d : DefRec} {K : Params → PySem.W.Frag}
    (hn : l.most = some n) (hn2 : n ≤ sizeLine) (hdf : d.params.defaults = []) (hq : importsNone q = true) (hY : ∀ (w : World) (h : Heap), YP w h → (K w.params).In h)
    (F : ∀ (w : World) (mg : Str → Option Value) (fa : Addr) (h : Heap), (K w.params).In h → h.Ns mainGlobals mg → mg d.name = some (.ref fa) →
      ∀ (base : Heap) (H : Hp) (s : Shared) (a : Addr) (ns : List Int), (K w.params).In base → base.Ns mainGlobals mg → Env0 l.prog w (K w.params) mg base callerA [] s H → SqL (K w.params) H a (ns.map V.int) → ns.length ≤ n → SysAt (K w.params) H →
        codeAny (model l.prog w) callerA (.call (.ref fa) ⟨[.ref a], []⟩) (CR CX0 [] l.prog w H s (fun v _ => v = .bl true) fun _ _ _ => False) s) :
    PySem.W.WalkO q loose XP YP l.row.toRowW d [] (fun f vs => PySem.call f vs) := by
  refine Att.attach_call hn hdf fun w s₀ s₁ mg mb fa o pm cd doc a vs ns G Y _ _ _ hmg hobj hints hlen hg => ?_
  have KX := hY w _ Y
  exact call_scrS KX G.T.g G.T.b G.T.builtins G.T.nolimit hg (G.T.seer hq) hobj hints (Nat.le_trans hlen hn2) fun base H kb nb e0 hS sy => F w mg fa _ KX G.T.g hmg base H s₁ a ns kb nb e0 hS hlen sy
/-! ### repr of data with empty dicts -/
mutual
theorem Dx.reads {X : Cx} {pins : List (Addr × Obj)} {σ : L2.St} {H G : Hp} {s : Shared} (I : Inv X pins σ H s) (sm : Same G H) (sy : ∀ (b : Addr) (o : HO), H b = some o → (∀ x u, o ≠ .frz x u) → b ≠ sysModules) : ∀ (d : PyData) (v : V) (u : Value), Dx G v d → RelV v u → ∃ as, Reads s.heap u d as ∧ sysModules ∉ as
  | .none, _, _, h, r => by cases h; cases r; exact ⟨_, Reads.none, by simp⟩
  | .bool b, _, _, h, r => by cases h; cases r; exact ⟨_, Reads.bool b, by simp⟩
  | .int i, _, _, h, r => by cases h; obtain ⟨t, rfl⟩ := r; exact ⟨_, Reads.int i t, by simp⟩
  | .str x, _, _, h, r => by cases h; obtain ⟨t, rfl⟩ := r; exact ⟨_, Reads.str x t, by simp⟩
  | .list ds, _, _, h, r => by
    cases h with
    | lst e k =>
      cases r
      have ea := sm _ _ e
      obtain ⟨its, rv, ⟨o, n, ho, hc, _, hd⟩, _⟩ := I.list (.of ea)
      obtain ⟨as, hr, ns⟩ := Dx.readsAll I sm sy ds _ its k rv
      refine ⟨_, Reads.list ho hc hd hr, fun hm => ?_⟩
      rcases List.mem_cons.mp hm with z | z
      · exact sy _ _ ea (fun _ _ => nofun) z.symm
      · exact ns z
  | .tuple ds, _, _, h, r => by
    cases h with
    | tup e k =>
      cases r
      have ea := sm _ _ e
      obtain ⟨its, rv, ⟨o, ho, hc, n, hd⟩, _⟩ := I.tuple (.of ea)
      obtain ⟨as, hr, ns⟩ := Dx.readsAll I sm sy ds _ its k rv
      exact ⟨_, Reads.tuple ho hc hd hr, ns⟩
  | .dict _, _, _, h, r => by
    cases h with
    | dk e =>
      cases r
      have ea := sm _ _ e
      obtain ⟨_, ns, vs, kv, dd⟩ := dk_of I.hok ea
      cases kv
      obtain ⟨o, es, ep, h1, h2, h3, h4⟩ := dd
      have z : es = #[] := by
        have hp := h4.2.1
        rcases es with ⟨l⟩
        cases l with
        | nil => rfl
        | cons x r => first | cases hp | exact hp.elim | simp at hp
      subst z
      refine ⟨_, Reads.dict (as := []) (bs := []) h1 h2.1 h3 .nil .nil, fun hm => ?_⟩
      rcases List.mem_cons.mp hm with y | y
      · rw [← y] at ns
        exact absurd ns (by decide)
      · cases y
theorem Dx.readsAll {X : Cx} {pins : List (Addr × Obj)} {σ : L2.St} {H G : Hp} {s : Shared} (I : Inv X pins σ H s) (sm : Same G H) (sy : ∀ (b : Addr) (o : HO), H b = some o → (∀ x u, o ≠ .frz x u) → b ≠ sysModules) : ∀ (ds : List PyData) (vs : List V) (us : List Value), DxAll G vs ds → Vals vs us → ∃ as, ReadsAll s.heap us ds as ∧ sysModules ∉ as
  | [], _, _, h, r => by cases h; cases r; exact ⟨_, ReadsAll.nil, by simp⟩
  | d :: ds, _, _, h, r => by
    cases h with
    | cons h1 h2 =>
      cases r with
      | cons r1 r2 =>
        obtain ⟨as, q1, n1⟩ := Dx.reads I sm sy d _ _ h1 r1
        obtain ⟨bs, q2, n2⟩ := Dx.readsAll I sm sy ds _ _ h2 r2
        exact ⟨_, ReadsAll.cons q1 q2, fun hm => (List.mem_append.mp hm).elim n1 n2⟩
end
def rReprX (K : PySem.W.Frag) : List V → Hp → VK → Prop := fun xs H Q => ∃ (x : V) (d : PyData) (n : Nat), xs = [x] ∧ (∃ G, Same G H ∧ Dx G x d) ∧ SysAt K H ∧ Fit n 50 d ∧ n ≤ 25000 ∧ Q (.str d.shown) H
theorem call_reprX {X : Cx} (gd : X.A.guards = some []) (hu : X.A.units + 64 < cLine) : CallR X (.builtin "repr") (rReprX X.K) := by
  intro pins s σ H xs us Q I r h
  obtain ⟨x, d, n, rfl, ⟨G, sm, hd⟩, sy, ft, hn, hq⟩ := h
  obtain ⟨u, rfl, ru⟩ := r.one
  have hz := ft.line hn
  have hdp := ft.dp
  have sys : ∀ (b : Addr) (o : HO), H b = some o → (∀ x u, o ≠ .frz x u) → b ≠ sysModules := fun b o e nf z => by
    subst z
    rcases sy with ⟨ox, q⟩ | ⟨ox, ux, q⟩
    · have := (I.bs _ _ (I.ok.mod.kin _ _ q)).2
      rw [this] at e; cases e
    · rw [q] at e; cases e; exact nf _ _ rfl
  obtain ⟨as, rd, ns⟩ := Dx.reads I sm sys d x u hd ru
  have byRef : ∀ a, u = .ref a → wpAny (model X.prog X.w) X.A (call (.builtin "repr") [u]) (EP X pins σ Q) X.xe s := fun a e => by
    subst e
    exact repr_of_reads' rd ft.sh (fun _ => ns) gd (by omega) (fun _ _ z => z) (fun h' v tk k => ⟨.str d.shown, H, I.kept (t' := tk) k, ⟨_, rfl⟩, hq⟩) hz
  have hs := ft.sh
  cases hd with
  | non => cases ru; exact PySem.P.repr_of_none ⟨.str "None", H, I.tok _, ⟨_, rfl⟩, hq⟩
  | bl b => cases ru; exact PySem.P.repr_of_bool ⟨.str (if b then "True" else "False"), H, I.tok _, ⟨_, rfl⟩, hq⟩
  | int i => obtain ⟨t, rfl⟩ := ru; exact PySem.P.repr_of_int (of_decide_eq_true hs) ⟨.str (toString i), H, I.tok _, ⟨_, rfl⟩, hq⟩
  | str z => obtain ⟨t, rfl⟩ := ru; exact PySem.P.repr_of_str ⟨.str (reprText z), H, I.tok _, ⟨_, rfl⟩, hq⟩ hz
  | lst _ _ => exact byRef _ ru
  | tup _ _ => exact byRef _ ru
  | dk _ => exact byRef _ ru
/-! ### tables of the module: written dicts with text keys -/
def look {α : Type} : List (Str × α) → Str → Option α
  | [], _ => none
  | (k, R) :: r, z => if k = z then some R else look r z
theorem look_pos {α : Type} {k z : Str} {a : α} {r : List (Str × α)} (h : k = z) : look ((k, a) :: r) z = some a := if_pos h
theorem look_neg {α : Type} {k z : Str} {a : α} {r : List (Str × α)} (h : k ≠ z) : look ((k, a) :: r) z = look r z := if_neg h
theorem look_map {α β : Type} (f : α → β) (z : Str) : ∀ l : List (Str × α), look (l.map fun p => (p.1, f p.2)) z = (look l z).map f
  | [] => rfl
  | (k, a) :: r => by
    rw [List.map_cons]
    by_cases h : k = z
    · rw [look_pos h, look_pos h]; rfl
    · rw [look_neg h, look_neg h]; exact look_map f z r
local macro_rules | `(tactic| walk_at "look") => `(tactic| first | exact look_pos rfl | (refine (look_neg ?kne).trans ?krest; (case kne => decide +kernel); (case krest => walk_at "look")) | rfl)
inductive TabR (P : Params) : List DictEntry → List (Str × (V → Prop)) → Prop where
  | nil : TabR P [] []
  | cons {k : Str} {t : Tok} {u : Value} {v : V} {R : V → Prop} {es : List DictEntry} {tab : List (Str × (V → Prop))} (h : RelV v u) (hR : R v) (r : TabR P es tab) : TabR P (⟨PyData.keyHash P k, .str k t, u⟩ :: es) ((k, R) :: tab)
theorem TabR.lit {P : Params} {es : List DictEntry} {tab : List (Str × (V → Prop))} (r : TabR P es tab) : PySem.W.KeysLit P es := by
  induction r with
  | nil => trivial
  | cons _ _ _ ih => exact ⟨⟨_, _, rfl, rfl⟩, ih⟩
theorem isS_iff (k z : Str) (t : Tok) : (Value.str k t).isStr z = decide (k = z) := by
  unfold Value.isStr
  first | rfl | (rw [Bool.eq_iff_iff]; simp)
theorem TabR.noref {P : Params} {es : List DictEntry} {tab : List (Str × (V → Prop))} (r : TabR P es tab) : es.any (·.refKey) = false := by
  induction r with
  | nil => rfl
  | cons _ _ _ ih => rw [List.any_cons, ih]; rfl
theorem TabR.find {P : Params} {es : List DictEntry} {tab : List (Str × (V → Prop))} (r : TabR P es tab) (z : Str) :
    match look tab z with
    | none => es.find? (·.key.isStr z) = none
    | some R => ∃ e v, es.find? (·.key.isStr z) = some e ∧ RelV v e.val ∧ R v := by
  induction r with
  | nil => rfl
  | @cons k t u v R es tab h hR r ih =>
    by_cases c : k = z
    · rw [look_pos c]
      refine ⟨⟨PyData.keyHash P k, .str k t, u⟩, v, ?_, h, hR⟩
      rw [List.find?_cons, show (Value.str k t).isStr z = true by rw [isS_iff]; exact decide_eq_true c]
    · rw [look_neg c]
      have e : (Value.str k t).isStr z = false := by rw [isS_iff]; exact decide_eq_false c
      rw [List.find?_cons, e]
      exact ih
/-- at D stands the table tab -/
structure KTab (K : PySem.W.Frag) (w : World) (D : Addr) (tab : List (Str × (V → Prop))) : Prop where
  at_ : ∃ es n, KDict K w D es n ∧ TabR w.params es.toList tab
theorem ktab_of {K : PySem.W.Frag} {w : World} {D : Addr} {es : Array DictEntry} {n : Nat} {tab : List (Str × (V → Prop))} (hl : K.lookup D = some ⟨.type "dict", none, .dict es n, #[]⟩) (r : TabR w.params es.toList tab) (low : (D == sysModules) = false) : KTab K w D tab :=
  ⟨es, n, ⟨hl, r.lit, low⟩, r⟩
theorem KTab.ns {K : PySem.W.Frag} {w : World} {D : Addr} {tab : List (Str × (V → Prop))} (T : KTab K w D tab) (z : Str) :
    match look tab z with
    | none => PySem.W.nsIn K D z = some none
    | some R => ∃ u v, PySem.W.nsIn K D z = some (some u) ∧ RelV v u ∧ R v := by
  obtain ⟨es, n, d, r⟩ := T.at_
  have f := r.find z
  unfold PySem.W.nsIn
  rw [d.at_]
  dsimp only
  cases e : look tab z with
  | none =>
    rw [e] at f
    dsimp only at f ⊢
    rw [f, r.noref]; rfl
  | some R =>
    rw [e] at f
    obtain ⟨x, v, f1, f2, f3⟩ := f
    exact ⟨x.val, v, by rw [f1], f2, f3⟩
theorem KTab.dct {K : PySem.W.Frag} {w : World} {D : Addr} {tab : List (Str × (V → Prop))} (T : KTab K w D tab) {z : Str} {R : V → Prop} (e : look tab z = some R) : ∃ v, KDct K w D z v ∧ R v := by
  have f := T.ns z
  rw [e] at f
  obtain ⟨u, v, f1, f2, f3⟩ := f
  obtain ⟨es, n, d, r⟩ := T.at_
  exact ⟨v, ⟨es, n, u, d.at_, d.lit, f1, f2⟩, f3⟩
def rInTab (K : PySem.W.Frag) (w : World) : R2 := fun x y H Q => ∃ z d tab, x = .str z ∧ y = .ref d ∧ KTab K w d tab ∧ Q (.bl (look tab z).isSome) H
def rNotInTab (K : PySem.W.Frag) (w : World) : R2 := fun x y H Q => ∃ z d tab, x = .str z ∧ y = .ref d ∧ KTab K w d tab ∧ Q (.bl (!(look tab z).isSome)) H
theorem op_inTab {X : Cx} : OpR X (compareOp .In) (rInTab X.K X.w) := by
  intro pins s σ H x y v u Q I rx ry h
  obtain ⟨z, d, tab, rfl, rfl, T, q⟩ := h
  obtain ⟨es, n, D, _⟩ := id T.at_
  have f := T.ns z
  cases e : look tab z with
  | none =>
    rw [e] at f q
    exact op_in_kd D pins s σ H _ _ v u Q I rx ry ⟨z, none, rfl, rfl, f, q⟩
  | some R =>
    rw [e] at f q
    obtain ⟨u0, v0, f1, _, _⟩ := f
    exact op_in_kd D pins s σ H _ _ v u Q I rx ry ⟨z, some u0, rfl, rfl, f1, q⟩
theorem op_notInTab {X : Cx} : OpR X (compareOp .NotIn) (rNotInTab X.K X.w) := by
  intro pins s σ H x y v u Q I rx ry h
  obtain ⟨z, d, tab, rfl, rfl, T, q⟩ := h
  obtain ⟨es, n, D, _⟩ := id T.at_
  have f := T.ns z
  cases e : look tab z with
  | none =>
    rw [e] at f q
    exact op_notIn_kd D pins s σ H _ _ v u Q I rx ry ⟨z, none, rfl, rfl, f, q⟩
  | some R =>
    rw [e] at f q
    obtain ⟨u0, v0, f1, _, _⟩ := f
    exact op_notIn_kd D pins s σ H _ _ v u Q I rx ry ⟨z, some u0, rfl, rfl, f1, q⟩
/-! ### a, *b = things -/
theorem Vals.takeV : ∀ {xs : List V} {us : List Value} (n : Nat), Vals xs us → Vals (xs.take n) (us.take n)
  | _, _, 0, _ => .nil
  | _, _, _ + 1, .nil => .nil
  | _, _, n + 1, .cons r rr => .cons r (Vals.takeV n rr)
theorem Vals.dropV : ∀ {xs : List V} {us : List Value} (n : Nat), Vals xs us → Vals (xs.drop n) (us.drop n)
  | _, _, 0, r => r
  | _, _, _ + 1, .nil => .nil
  | _, _, n + 1, .cons _ rr => Vals.dropV n rr
def ItIs (h : Heap) (a : Addr) (its : Array Value) : Prop := IsTup h a its ∨ h.IsList a its
theorem unp_star {P : Program} {w : World} {A : Around} {E : Value → Shared → Prop} {s : Shared} {a : Addr} {its : Array Value} {n i : Nat} {R : List Value → Shared → Prop} (nh : A.handled = none) (at_ : ItIs s.heap a its) (hi : i < n) (hn : n ≤ its.size + 1) (hz : its.size ≤ sizeLine)
    (fin : ∀ (g : Heap) (tk : Nat), (∀ b o, s.heap.get? b = some o → g.get? b = some o) → R (its.toList.take i ++ [Value.ref g.objs.size] ++ (its.toList.drop i).drop (its.size + 1 - n)) { s with heap := g.push { cls := .type "list", data := .seq ((its.toList.drop i).take (its.size + 1 - n)).toArray }, toks := tk }) :
    wpAny (model P w) A (unpackItems (.ref a) n (some i)) R E s := by
  have tl : (its.toList.take i).length = i := by rw [List.length_take, Array.length_toList]; omega
  have dl : (its.toList.drop i).length = its.size - i := by rw [List.length_drop, Array.length_toList]
  have md : (its.toList.drop i).length - (n - 1 - i) = its.size + 1 - n := by rw [dl]; omega
  have small : ((its.toList.drop i).take (its.size + 1 - n)).length ≤ sizeLine := by rw [List.length_take, dl]; omega
  have kp1 : ∀ (x : Obj) (b : Addr) (o : Obj), s.heap.get? b = some o → (s.heap.push x).get? b = some o := fun x b o e => Heap.get?_push_of_some _ e
  have tail : ∀ (g : Heap) (tk : Nat), (∀ b o, s.heap.get? b = some o → g.get? b = some o) → wpAny (model P w) A (newList ((its.toList.drop i).take (its.size + 1 - n)) >>= fun d => pure (its.toList.take i ++ [d] ++ (its.toList.drop i).drop (its.size + 1 - n))) R E { s with heap := g, toks := tk } := by
    intro g tk kp
    refine wpAny_bind ?_
    refine wpAny_newObj_type ?_ (by rw [List.size_toArray]; exact small)
    exact wpAny_pure (fin g tk kp)
  have out : ∀ (g : Heap) (tk : Nat), (∀ b o, b ≠ s.heap.objs.size → s.heap.get? b = some o → g.get? b = some o) → ∀ b o, s.heap.get? b = some o → g.get? b = some o := fun g tk k b o e => k b o (Nat.ne_of_lt (Heap.lt_size e)) e
  unfold unpackItems
  refine wpAny_bind ?_
  unfold notIterableAtAll
  rcases at_ with tp | ls
  · have low : a < s.heap.objs.size := by obtain ⟨o, ho, _⟩ := tp; exact Heap.lt_size ho
    refine wpAny_bind (wpAny_specialOf tp.typeIs slot_tuple_iter.lookup (wpAny_pure ?_))
    simp only [Bool.false_eq_true, if_false]
    refine wpAny_bind (wpAny_holding (iter_tuple tp ?_))
    refine wpAny_bind (wpAny_holding (draw_tuple (Nat.ne_of_lt low) i 0 _ _ ⟨_, Heap.get?_push_size _ rfl, rfl, rfl⟩ (tp.push _) (by omega) fun g1 it1 sb1 => ?_))
    have tp1 : IsTup g1 a its := (tp.push _).extBut sb1.extBut (Nat.ne_of_lt low)
    rw [Nat.zero_add] at it1
    obtain ⟨oi, hoi, _⟩ := id it1
    obtain ⟨oa, hoa, _⟩ := id tp1
    rw [List.drop_zero, if_neg (show ¬ ((its.toList.take i).length < i) by rw [tl]; omega)]
    refine wpAny_bind (wpAny_holding (PySem.W.kun_collect (s := { s with heap := g1 }) (T := "tuple_iterator") (.inr (.inr (.inr rfl))) (Walks.tuple (A := A.in1) nh s.heap.objs.size a (Nat.ne_of_lt low) its) (fun j u st => st.1.typeIs) (k := i) (by omega) ⟨it1, tp1⟩ (Heap.lt_size hoi) (Heap.lt_size hoa) (fun g2 tk k2 => ?_) hz))
    show wpAny _ _ (if (its.toList.drop i).length < n - 1 - i then _ else _) _ _ _
    rw [if_neg (show ¬ ((its.toList.drop i).length < n - 1 - i) by rw [dl]; omega)]
    show wpAny _ _ (newList ((its.toList.drop i).take ((its.toList.drop i).length - (n - 1 - i))) >>= fun d => pure (its.toList.take i ++ [d] ++ (its.toList.drop i).drop ((its.toList.drop i).length - (n - 1 - i)))) _ _ _
    rw [md]
    exact tail g2 tk (out g2 tk fun b o nb e => k2 b o nb (sb1.extBut b o nb (kp1 _ b o e)))
  · have low : a < s.heap.objs.size := by obtain ⟨o, ho, _⟩ := ls; exact Heap.lt_size ho
    refine wpAny_bind (wpAny_specialOf ls.typeIs slot_list_iter.lookup (wpAny_pure ?_))
    simp only [Bool.false_eq_true, if_false]
    refine wpAny_bind (wpAny_holding (wpAny_pyIter_list ls ?_))
    refine wpAny_bind (wpAny_holding (PySem.W.kun_draw (Nat.ne_of_lt low) i 0 _ _ ⟨_, Heap.get?_push_size _ rfl, rfl, rfl⟩ (ls.push _) (by omega) fun g1 it1 sb1 => ?_))
    have ls1 : g1.IsList a its := (ls.push _).extBut sb1.extBut (Nat.ne_of_lt low)
    rw [Nat.zero_add] at it1
    obtain ⟨oi, hoi, _⟩ := id it1
    obtain ⟨oa, hoa, _⟩ := id ls1
    rw [List.drop_zero, if_neg (show ¬ ((its.toList.take i).length < i) by rw [tl]; omega)]
    refine wpAny_bind (wpAny_holding (PySem.W.kun_collect (s := { s with heap := g1 }) (T := "list_iterator") (.inr (.inr (.inl rfl))) (Walks.list (A := A.in1) nh s.heap.objs.size a (Nat.ne_of_lt low) its) (fun j u st => st.1.typeIs) (k := i) (by omega) ⟨it1, ls1⟩ (Heap.lt_size hoi) (Heap.lt_size hoa) (fun g2 tk k2 => ?_) hz))
    show wpAny _ _ (if (its.toList.drop i).length < n - 1 - i then _ else _) _ _ _
    rw [if_neg (show ¬ ((its.toList.drop i).length < n - 1 - i) by rw [dl]; omega)]
    show wpAny _ _ (newList ((its.toList.drop i).take ((its.toList.drop i).length - (n - 1 - i))) >>= fun d => pure (its.toList.take i ++ [d] ++ (its.toList.drop i).drop ((its.toList.drop i).length - (n - 1 - i)))) _ _ _
    rw [md]
    exact tail g2 tk (out g2 tk fun b o nb e => k2 b o nb (sb1.extBut b o nb (kp1 _ b o e)))
/-- the starred one takes a new list of what is left over -/
def gTupS (K : PySem.W.Frag) (n i : Nat) (t : TGs) : TG := fun v σ H Q => ∃ a xs, v = .ref a ∧ (SqT K H a xs ∨ SqL K H a xs) ∧ i < n ∧ n ≤ xs.length + 1 ∧ ∀ p, H p = none → t (xs.take i ++ [V.ref p] ++ (xs.drop i).drop (xs.length + 1 - n)) σ (upd H p (.lst ((xs.drop i).take (xs.length + 1 - n)))) Q
theorem pgs_star {X : Cx} {e : Expr} {es : List Expr} {p : Pos} {t : TG} {u : TGs} (g1 : PG X e t) (g2 : PGs X es u) (he : (assignEach (.Starred e p :: es) X.env).map (·.2) = assign e X.env :: (assignEach es X.env).map (·.2) := by rfl) : PGs X (.Starred e p :: es) (gCons t u) := by
  refine ⟨fun pins s σ H vs us Q I r q => ?_⟩
  obtain ⟨v, vr, rfl, q⟩ := q
  cases r with
  | cons rv rr =>
    rw [he]
    refine assignInOrder_cons (thn (g1.run pins s σ H _ _ _ I rv q) fun _ s1 ⟨σ1, H1, I1, q1⟩ => ?_)
    exact g2.run pins s1 σ1 H1 _ _ Q I1 rr q1
theorem pg_tupS {X : Cx} {es : List Expr} {k : Nat} {t : TGs} {n i : Nat} {pos : Pos} (hc : X.calm = true) (h : PGs X es t) (hn : (assignEach es X.env).length = n := by rfl) (hst : (assignEach es X.env).findIdx? (·.1) = some i := by rfl) : PG X (.Tuple es k pos) (gTupS X.K n i t) := by
  refine ⟨fun pins s σ H v u Q I r hw => ?_⟩
  obtain ⟨a, xs, rfl, sq, l1, l2, hw⟩ := hw
  obtain rfl : u = Value.ref a := r
  obtain ⟨its, rv, at_, hz⟩ : ∃ its : List Value, Vals xs its ∧ ItIs s.heap a its.toArray ∧ xs.length ≤ sizeLine := by
    rcases sq with sq | sq
    · obtain ⟨its, rv, tp, hz⟩ := I.tuple sq
      exact ⟨its, rv, .inl tp, hz⟩
    · obtain ⟨its, rv, pl, hz⟩ := I.list sq
      exact ⟨its, rv, .inr pl.isList, hz⟩
  have el := rv.length
  rw [assign_Tuple]
  refine wpAny_bind (wpAny_standAt ?_)
  unfold unpack
  rw [hn, hst]
  refine wpAny_bind (wpAny_holding (unp_star (I.ok.hd hc) at_ l1 (by rw [List.size_toArray, ← el]; exact l2) (by rw [List.size_toArray, ← el]; exact hz) fun g tk kp => ?_))
  have I1 : Inv X pins σ H { s with heap := g, toks := tk } := I.kept (t' := tk) kp
  have es2 : its.toArray.size + 1 - n = xs.length + 1 - n := by rw [List.size_toArray, el]
  have I2 : Inv X pins σ (upd H g.objs.size (.lst ((xs.drop i).take (xs.length + 1 - n)))) { s with heap := g.push { cls := .type "list", data := .seq ((its.toArray.toList.drop i).take (its.toArray.size + 1 - n)).toArray }, toks := tk } := by
    refine I1.laid (t' := tk) (fun b o e => Heap.get?_push_of_some _ e) (Nat.le_refl _) ?_
    refine ⟨?_, (its.drop i).take (xs.length + 1 - n), 0, Vals.takeV _ (Vals.dropV _ rv), ?_⟩
    · rw [List.length_take, List.length_drop]; omega
    · rw [es2]; exact Heap.get?_push_size _ rfl
  refine h.run pins _ σ _ _ _ Q I2 ?_ (hw _ (I1.hok.fresh (Nat.le_refl _)))
  rw [es2]
  have rp : RelV (V.ref g.objs.size) (Value.ref g.objs.size) := rfl
  exact ((Vals.takeV _ rv).append (.cons rp .nil)).append (Vals.dropV _ (Vals.dropV _ rv))
/-! ### d.update(e), both dicts with text keys -/
theorem mt_update {X : Cx} : MtR X "dict.update" (fun x vs H Q => ∃ (a b : Addr) (kvs more : List (Key × V)), x = .ref a ∧ vs = [.ref b] ∧ H a = some (.dK kvs) ∧ H b = some (.dK more) ∧ a ≠ b ∧ kvs.length + more.length ≤ sizeLine ∧ Q .non (upd H a (.dK (mergeK kvs more)))) := by
  intro pins s σ H x vs v us Q I rx rv h
  obtain ⟨a, b, kvs, more, rfl, rfl, ea, eb, nab, hz, q⟩ := h
  obtain rfl : v = Value.ref a := rx
  obtain ⟨u, rfl, ru⟩ := rv.one
  obtain rfl : u = Value.ref b := ru
  obtain ⟨za, ha, va, ra, da⟩ := dk_of I.hok ea
  obtain ⟨zb, hb, vb, rb, db⟩ := dk_of I.hok eb
  refine call_meetsIn PySem.F.slot_dict_update da.typeIs PySem.F.entry_dict_update (PySem.F.args_dict_update_2 _ _) (meets_dict_update (mixKind X.prog X.w) a b nab hb) ⟨va, vb, da, db, by rw [← ra.length, ← rb.length]; exact hz, fun h' d1 d2 hs => ?_⟩
  have he : ∃ q, h'.get? a = some q := let ⟨q, _, _, hq, _⟩ := d1; ⟨q, hq⟩
  refine ⟨.non, _, d_write (t' := s.toks) I (by rw [ea]; exact True.intro) hs he (dk_new (Nat.le_trans (length_mergeK more kvs) hz) ha (KV.merge rb ra) d1), rfl, q⟩
/-! ### zip of lists, tuples, texts in any mix -/
inductive SK where
  | l | t | s
def SrcAt (K : PySem.W.Frag) : SK → V → Hp → List V → Prop
  | .l, .ref a, H, xs => SqL K H a xs
  | .t, .ref a, H, xs => SqT K H a xs
  | .s, .str z, _, xs => xs = signs z
  | _, _, _, _ => False
def SrcIt : SK → V → Addr → Nat → Heap → Prop
  | .l, .ref a, it, i, h => h.IsListIter it a i
  | .t, .ref a, it, i, h => h.IsTupleIter it a i
  | .s, .str z, it, i, h => ∃ t, h.IsStrIter it (strIterType z) z t i
  | _, _, _, _, _ => False
def srcOwn : V → List Addr
  | .ref a => [a]
  | _ => []
theorem SrcIt.at {k : SK} {v : V} {it : Addr} {i : Nat} {h h' : Heap} (x : SrcIt k v it i h) (e : ∀ o, h.get? it = some o → h'.get? it = some o) : SrcIt k v it i h' := by
  unfold SrcIt at *
  split at x
  · exact x.at e
  · exact x.at e
  · obtain ⟨t, o, h1, h2⟩ := x
    exact ⟨t, o, e _ h1, h2⟩
  · exact x.elim
theorem SrcIt.obj {k : SK} {v : V} {it : Addr} {i : Nat} {h : Heap} (x : SrcIt k v it i h) : ∃ o, h.get? it = some o ∧ ∀ u, o.data ≠ .cell u := by
  unfold SrcIt at x
  split at x
  · obtain ⟨o, e, _, d⟩ := x; exact ⟨o, e, fun u q => by rw [d] at q; cases q⟩
  · obtain ⟨o, e, _, d⟩ := x; exact ⟨o, e, fun u q => by rw [d] at q; cases q⟩
  · obtain ⟨t, o, e, _, d⟩ := x; exact ⟨o, e, fun u q => by rw [d] at q; cases q⟩
  · exact x.elim
theorem srcAt_inj {X : Cx} {pins : List (Addr × Obj)} {σ : L2.St} {H : Hp} {s : Shared} (I : Inv X pins σ H s) {k : SK} {v : V} {xs ys : List V} (h : SrcAt X.K k v H xs) (h' : SrcAt X.K k v H ys) : xs = ys := by
  unfold SrcAt at *
  split at h
  · exact I.list_inj h h'
  · exact I.tuple_inj h h'
  · exact h.trans h'.symm
  · exact h.elim
theorem src_draws {X : Cx} {pins : List (Addr × Obj)} {σ : L2.St} {H : Hp} {s : Shared} (I : Inv X pins σ H s) (hd : X.A.in1.handled = none) {k : SK} {v : V} {xs : List V} {it : Addr} {i : Nat} (h : SrcAt X.K k v H xs) (t : SrcIt k v it i s.heap) (ne : ∀ a ∈ srcOwn v, a ≠ it) :
    ∃ (P : Nat → Value → Prop) (St : Nat → Heap → Prop), Draws X.prog X.w X.A.in1 it (it :: srcOwn v) xs.length P St ∧ St i s.heap ∧ (∀ j h, St j h → SrcIt k v it j h) ∧ ∀ j u, P j u → ∃ x, xs[j]? = some x ∧ RelV x u := by
  cases k with
  | l =>
    cases v with
    | ref a =>
      obtain ⟨its, rv, p, _⟩ := I.list (show SqL X.K H a xs from h)
      have D := Draws.list (prog := X.prog) (w := X.w) hd it a (ne a (by simp [srcOwn])) its.toArray
      rw [List.size_toArray, ← rv.length] at D
      refine ⟨_, _, D, ⟨t, p.isList⟩, fun j h q => q.1, fun j u q => ?_⟩
      have q' : its[j]? = some u := by simpa using q
      have hj : j < xs.length := by rw [rv.length]; exact (List.getElem?_eq_some_iff.mp q').1
      obtain ⟨u', hu, ru⟩ := rv.get (List.getElem?_eq_getElem hj)
      rw [q'] at hu
      cases hu
      exact ⟨_, List.getElem?_eq_getElem hj, ru⟩
    | _ => exact h.elim
  | t =>
    cases v with
    | ref a =>
      obtain ⟨its, rv, p, _⟩ := I.tuple (show SqT X.K H a xs from h)
      have D := Draws.tuple (prog := X.prog) (w := X.w) hd it a (ne a (by simp [srcOwn])) its.toArray
      rw [List.size_toArray, ← rv.length] at D
      refine ⟨_, _, D, ⟨t, p⟩, fun j h q => q.1, fun j u q => ?_⟩
      have q' : its[j]? = some u := by simpa using q
      have hj : j < xs.length := by rw [rv.length]; exact (List.getElem?_eq_some_iff.mp q').1
      obtain ⟨u', hu, ru⟩ := rv.get (List.getElem?_eq_getElem hj)
      rw [q'] at hu
      cases hu
      exact ⟨_, List.getElem?_eq_getElem hj, ru⟩
    | _ => exact h.elim
  | s =>
    cases v with
    | str z =>
      obtain ⟨tk, ht⟩ := (show ∃ t, s.heap.IsStrIter it (strIterType z) z t i from t)
      have eh : xs = signs z := h
      have D := Draws.text (prog := X.prog) (w := X.w) hd it z tk
      have el : xs.length = z.cps.size := by rw [eh]; unfold signs; simp
      rw [← el] at D
      refine ⟨_, _, D, ht, fun j h q => ⟨tk, q⟩, fun j u q => ?_⟩
      obtain ⟨c, t', hc, rfl⟩ := q
      refine ⟨V.str ⟨#[c]⟩, ?_, ⟨t', rfl⟩⟩
      rw [eh]
      unfold signs
      rw [List.getElem?_map, Array.getElem?_toList, hc]; rfl
    | _ => exact h.elim
/-- the two as they stand at each turn, the items in new pairs -/
def ItzG (K : PySem.W.Frag) (k1 k2 : SK) (v1 v2 : V) : It :=
  ⟨fun i H => ∃ (xs ys : List V) (x y : V), SrcAt K k1 v1 H xs ∧ SrcAt K k2 v2 H ys ∧ xs[i]? = some x ∧ ys[i]? = some y,
    fun i H v H' => ∃ T x y, v = .ref T ∧ H T = none ∧ H' = upd H T (.tup [x, y]) ∧ (∀ xs, SrcAt K k1 v1 H xs → xs[i]? = some x) ∧ ∀ ys, SrcAt K k2 v2 H ys → ys[i]? = some y,
    fun i H => ∃ xs ys : List V, SrcAt K k1 v1 H xs ∧ SrcAt K k2 v2 H ys ∧ i = min xs.length ys.length⟩
theorem turn_zipG {P : Program} {w : World} {K : PySem.W.Frag} {elts : List Expr} {kk : Nat} {tpos : Pos} {k1 k2 : SK} {v1 v2 : V} {z TI TO i1 i2 : Addr} (D : ZipSep2 z TI TO i1 i2 (i1 :: srcOwn v1) (i2 :: srcOwn v2)) (ne1 : ∀ a ∈ srcOwn v1, a ≠ i1) (ne2 : ∀ a ∈ srcOwn v2, a ≠ i2) (nii : i1 ≠ i2) :
    Turn P w K (.Tuple elts kk tpos) (ItzG K k1 k2 v1 v2) [z, TI, TO, i1, i2] z (fun i h => IsZip h z TI TO .none ∧ IsTupOf2 h TI (.ref i1) (.ref i2) ∧ (∃ x y, IsTupOf2 h TO x y) ∧ SrcIt k1 v1 i1 i h ∧ SrcIt k2 v2 i2 i h) where
  mem := by simp
  obj := fun i h st c hc => by
    obtain ⟨hz, hTI, ⟨x, y, hTO⟩, s1, s2⟩ := st
    have e' : c = z ∨ c = TI ∨ c = TO ∨ c = i1 ∨ c = i2 := by simpa using hc
    rcases e' with q | q | q | q | q
    · rw [q]; exact ⟨_, hz, fun v q => nomatch q⟩
    · rw [q]; exact ⟨_, hTI, fun v q => nomatch q⟩
    · rw [q]; exact ⟨_, hTO, fun v q => nomatch q⟩
    · rw [q]; exact s1.obj
    · rw [q]; exact s2.obj
  keep := fun i h h' st k => by
    obtain ⟨hz, hTI, ⟨x, y, hTO⟩, s1, s2⟩ := st
    exact ⟨k z (by simp) _ hz, k TI (by simp) _ hTI, ⟨x, y, k TO (by simp) _ hTO⟩, s1.at fun o q => k i1 (by simp) o q, s2.at fun o q => k i2 (by simp) o q⟩
  item := by
    intro X hP hw hK hc i pins s σ H E I hf st hg
    subst hP hw hK
    obtain ⟨hz, hTI, ⟨x0, y0, hTO⟩, t1, t2⟩ := st
    obtain ⟨xs, ys, x, y, hqx, hqy, hx, hy⟩ := hg
    have hd : X.A.in1.handled = none := I.ok.hd hc
    obtain ⟨P1, S1, D1, st1, b1, r1⟩ := src_draws I hd hqx t1 ne1
    obtain ⟨P2, S2, D2, st2, b2, r2⟩ := src_draws I hd hqy t2 ne2
    have l1 : i < xs.length := (List.getElem?_eq_some_iff.mp hx).1
    have l2 : i < ys.length := (List.getElem?_eq_some_iff.mp hy).1
    have hzl : z < s.heap.objs.size := Heap.lt_size hz
    refine wpAny_pyNext_zipD2_item D D1 D2 hz hTI hTO st1 st2 l1 l2 fun u u2 h' tk p1 p2 z' TO' d1 d2 hT hsz hk => ?_
    obtain ⟨x', ex, ru⟩ := r1 i u p1
    obtain ⟨y', ey, ru2⟩ := r2 i u2 p2
    rw [hx] at ex
    rw [hy] at ey
    cases ex
    cases ey
    refine ⟨_, rfl, wpAny_letOwnedTupleGo_zip (s := { s with heap := h', toks := tk }) z' fun h'' z'' sb => ?_⟩
    have hT2 : h''.get? s.heap.objs.size = some { cls := .type "tuple", data := .seq #[u, u2] } := (sb.2 _ (Nat.ne_of_gt hzl)).trans hT
    have new : ObjOk X.prog X.w (upd H s.heap.objs.size (.tup [x, y])) h'' s.heap.objs.size (.tup [x, y]) :=
      ⟨by show 2 ≤ sizeLine; decide, [u, u2], .cons ru (.cons ru2 .nil), ⟨_, hT2, rfl, _, rfl⟩⟩
    have I1 : Inv X pins σ (upd H s.heap.objs.size (.tup [x, y])) { s with heap := h'', toks := tk } :=
      I.turnedNew (t' := tk) (ch := [z, TI, TO, i1, i2]) (fun c o hb q => (sb.2 c (fun q' => hb (by simp [q']))).trans (hk c o (fun q' => hb (by simp [q'])) (fun q' => hb (by simp [q'])) (fun q' => hb (by simp [q'])) (fun q' => hb (by simp [q'])) q)) hf (Nat.le_refl _) new
    have nz : ∀ {c o}, h'.get? c = some o → c ≠ z → h''.get? c = some o := fun {c o} q n => (sb.2 _ n).trans q
    refine ⟨.ref s.heap.objs.size, _, I1, rfl, ⟨_, x, y, rfl, I.hok.fresh (Nat.le_refl _), rfl, fun l hl => by rw [srcAt_inj I hl hqx]; exact hx, fun l hl => by rw [srcAt_inj I hl hqy]; exact hy⟩, ⟨z'', ?_, ⟨u, u2, ?_⟩, ?_, ?_⟩, fun c hcm => ?_⟩
    · exact nz (hk _ _ D.TIz D.TITO D.TIi1 D.TIi2 hTI) D.TIz
    · exact nz TO' D.TOz
    · exact (b1 _ _ d1).at fun o q => nz q D.zi1.symm
    · exact (b2 _ _ d2).at fun o q => nz q D.zi2.symm
    · have hlt : c < s.heap.objs.size := by
        have e' : c = z ∨ c = TI ∨ c = TO ∨ c = i1 ∨ c = i2 := by simpa using hcm
        rcases e' with q | q | q | q | q
        · rw [q]; exact hzl
        · rw [q]; exact Heap.lt_size hTI
        · rw [q]; exact Heap.lt_size hTO
        · rw [q]; obtain ⟨_, e1, _⟩ := t1.obj; exact Heap.lt_size e1
        · rw [q]; obtain ⟨_, e2, _⟩ := t2.obj; exact Heap.lt_size e2
      rw [upd_ne (Nat.ne_of_lt hlt)]
      exact (hf c hcm).1
  done := by
    intro X hP hw hK hc i pins s σ H E I hf st hg
    subst hP hw hK
    obtain ⟨hz, hTI, ⟨x0, y0, hTO⟩, t1, t2⟩ := st
    obtain ⟨xs, ys, hqx, hqy, hend⟩ := hg
    have hd : X.A.in1.handled = none := I.ok.hd hc
    obtain ⟨P1, S1, D1, st1, b1, r1⟩ := src_draws I hd hqx t1 ne1
    obtain ⟨P2, S2, D2, st2, b2, r2⟩ := src_draws I hd hqy t2 ne2
    exact wpAny_pyNext_zipD2_end D D1 D2 hz hTI hTO st1 st2 (by omega) (by omega) (by omega) fun h' tk hk => ⟨rfl, I.turnedL (t' := tk) (ch := [z, TI, TO, i1, i2]) (fun c o hb q =>
      hk c o (fun q' => hb (by simp [q'])) (fun q' => hb (by simp [q'])) (fun q' => hb (by simp [q'])) (fun q' => hb (by simp [q'])) q) hf⟩
  self := fun A i s Q E st h => wpAny_pyIter_zip st.1 h
def iZipG (K : PySem.W.Frag) (k1 k2 : SK) (ta : TA) : TI := fun σ H R => ta σ H fun vs H1 => ∃ v1 v2 xs ys, vs = [v1, v2] ∧ SrcAt K k1 v1 H1 xs ∧ SrcAt K k2 v2 H1 ys ∧ R (ItzG K k1 k2 v1 v2) H1
def srcObj : SK → Value → Obj
  | .l, v => { cls := .type "list_iterator", data := .fields #[v, .int 0 0] }
  | .t, v => { cls := .type "tuple_iterator", data := .fields #[v, .int 0 0] }
  | .s, .str x t => { cls := .type (strIterType x), data := .fields #[.str x t, .int 0 0] }
  | .s, _ => default
theorem src_begin {X : Cx} {pins : List (Addr × Obj)} {σ : L2.St} {H : Hp} {s : Shared} (I : Inv X pins σ H s) {k : SK} {v : V} {xs : List V} {u : Value} (h : SrcAt X.K k v H xs) (r : RelV v u) :
    ∃ B : Heap → Prop, Begins u (srcObj k u) B ∧ B s.heap ∧ (∀ a ∈ srcOwn v, a < s.heap.objs.size) ∧ ∀ (h' : Heap) (it : Addr), h'.get? it = some (srcObj k u) → SrcIt k v it 0 h' := by
  cases k with
  | l =>
    cases v with
    | ref a =>
      obtain rfl : u = Value.ref a := r
      obtain ⟨its, rv, p, _⟩ := I.list (show SqL X.K H a xs from h)
      exact ⟨_, begins_list a its.toArray, p.isList, fun b hb => by simp [srcOwn] at hb; subst hb; exact p.lt, fun h' it e => ⟨_, e, rfl, rfl⟩⟩
    | _ => exact h.elim
  | t =>
    cases v with
    | ref a =>
      obtain rfl : u = Value.ref a := r
      obtain ⟨its, rv, p, _⟩ := I.tuple (show SqT X.K H a xs from h)
      exact ⟨_, begins_tuple a its.toArray, p, fun b hb => by simp [srcOwn] at hb; subst hb; obtain ⟨o, ho, _⟩ := p; exact Heap.lt_size ho, fun h' it e => ⟨_, e, rfl, rfl⟩⟩
    | _ => exact h.elim
  | s =>
    cases v with
    | str z =>
      obtain ⟨t, rfl⟩ := r
      exact ⟨_, begins_text z t, trivial, fun b hb => by simp [srcOwn] at hb, fun h' it e => ⟨t, _, e, rfl, rfl⟩⟩
    | _ => exact h.elim
theorem pi_zipG {X : Cx} {k1 k2 : SK} {e e2 : Expr} {ta : TA} {p pos tpos : Pos} {elts : List Expr} {kk : Nat} (hg : Gl X "zip") (hm : X.mg "zip" = none) (ha : PA X [e, e2] ta)
    (hs : starEach [e, e2] X.env = (false, eval e X.env) :: starEach [e2] X.env := by rfl) (hpl : (backTo pos (starEach [e2] X.env)).any (·.1) = false := by rfl) :
    PI X (.Tuple elts kk tpos) (.Call (.Name "zip" p) [e, e2] [] pos) (iZipG X.K k1 k2 ta) := by
  refine ⟨fun pins s σ H R I h => ?_⟩
  refine Call_ (ld_blt I hg hm PyProof.Rows.boot_zip (PyProof.Rows.callWith_type1 (thn (ha.run pos pins s σ H _ I h) fun us s1 ⟨vs, H1, I1, r1, q1⟩ => ?_) hs hpl))
  obtain ⟨v1, v2, xs, ys, rfl, hx, hy, q⟩ := q1
  obtain ⟨u1, u2, rfl, ru1, ru2⟩ := vals2 r1
  obtain ⟨B1, b1, a1, o1, g1⟩ := src_begin I1 hx ru1
  obtain ⟨B2, b2, a2, o2, g2⟩ := src_begin I1 hy ru2
  refine zip_begins2 b1 b2 a1 a2 fun h' hz hTI hTO e1 e2 hsz hk => wpAny_pyIter_zip hz ?_
  have I2 : Inv X pins σ H1 { s1 with heap := h' } := I1.kept (t' := s1.toks) hk
  have N1 : s1.heap.objs.size ≠ s1.heap.objs.size + 1 := by omega
  have D : ZipSep2 (s1.heap.objs.size + 4) (s1.heap.objs.size + 2) (s1.heap.objs.size + 3) s1.heap.objs.size (s1.heap.objs.size + 1) (s1.heap.objs.size :: srcOwn v1) ((s1.heap.objs.size + 1) :: srcOwn v2) :=
    zip_sep2 (N := s1.heap.objs.size) o1 o2
  have fresh5 : ∀ c, c ∈ [s1.heap.objs.size + 4, s1.heap.objs.size + 2, s1.heap.objs.size + 3, s1.heap.objs.size, s1.heap.objs.size + 1] → FpOk X pins H1 c := fun c hcm => by
    have hle : s1.heap.objs.size ≤ c := by
      have e' : c = s1.heap.objs.size + 4 ∨ c = s1.heap.objs.size + 2 ∨ c = s1.heap.objs.size + 3 ∨ c = s1.heap.objs.size ∨ c = s1.heap.objs.size + 1 := by simpa using hcm
      omega
    exact I1.fpOk hle (I1.hok.fresh hle)
  exact ⟨s1.heap.objs.size + 4, [s1.heap.objs.size + 4, s1.heap.objs.size + 2, s1.heap.objs.size + 3, s1.heap.objs.size, s1.heap.objs.size + 1], _, _, H1, rfl, I2,
    turn_zipG D (fun a h => Nat.ne_of_lt (o1 a h)) (fun a h => Nat.ne_of_lt (Nat.lt_succ_of_lt (o2 a h))) N1, ⟨hz, hTI, ⟨_, _, hTO⟩, g1 _ _ e1, g2 _ _ e2⟩, fresh5, q⟩
theorem walk_zipG {K : PySem.W.Frag} {k1 k2 : SK} {v1 v2 : V} {xs ys : List V} {n : Nat} (hn : n = min xs.length ys.length) : Walk (ItzG K k1 k2 v1 v2) n (fun H => SrcAt K k1 v1 H xs ∧ SrcAt K k2 v2 H ys) (YPair (fun i => xs[i]?) (fun i => ys[i]?)) where
  goes := fun i H hi h => by
    have h1 : i < xs.length := by omega
    have h2 : i < ys.length := by omega
    exact ⟨xs, ys, xs[i], ys[i], h.1, h.2, List.getElem?_eq_getElem h1, List.getElem?_eq_getElem h2⟩
  stops := fun H h => ⟨xs, ys, h.1, h.2, hn⟩
  yields := fun i H x H' hi h y => by
    obtain ⟨T, x1, y1, rfl, hn', rfl, h1, h2⟩ := y
    exact ⟨T, x1, y1, rfl, hn', rfl, h1 xs h.1, h2 ys h.2⟩
/-! ### lists of texts compared -/
theorem ext_str {x y : Str} (h : x.cps.toList = y.cps.toList) : x = y := by
  cases x; cases y
  simp only at h
  rw [Array.toList_inj.mp h]
theorem rcs_ext {r : Str} (h : (rcs (hasR r) 9).map V.str = signs r) : r = rtx (hasR r) := by
  refine ext_str ?_
  rw [rtx_codes]
  unfold signs rcs at h
  rw [List.map_map] at h
  have e1 : List.map (V.str ∘ fun k => one (code k)) (List.filter (hasR r) (List.range 9)) = ((List.filter (hasR r) (List.range 9)).map code).map fun c => V.str (one c) := by
    rw [List.map_map]; rfl
  rw [e1] at h
  refine ((List.map_inj_right ?_).mp h).symm
  intro a b e
  have e3 : (#[a] : Array Nat) = #[b] := congrArg Str.cps (V.str.inj e)
  simpa using e3
theorem rcs_sig {r : Str} (h : r = rtx (hasR r)) : (rcs (hasR r) 9).map V.str = signs r := by
  have e : signs r = signs (rtx (hasR r)) := by rw [← h]
  rw [e]
  unfold signs rcs
  rw [rtx_codes, List.map_map, List.map_map]; rfl
theorem lay_strs : ∀ l : List Str, (∀ x ∈ l, PyData.strOk x = true) → PyData.canLay0 (.list (l.map .str)) = true := by
  intro l h
  rw [PyData.canLay0]
  induction l with
  | nil => simp [PyData.canLayAll0]
  | cons x l ih =>
    simp only [List.map_cons, PyData.canLayAll0, PyData.canLay0, Bool.and_eq_true]
    exact ⟨h x (by simp), ih fun y hy => h y (by simp [hy])⟩
theorem depth_strs : ∀ l : List Str, PyData.depth (.list (l.map .str)) ≤ 1 := by
  intro l
  rw [PyData.depth]
  have : PyData.depthAll (l.map .str) = 0 := by
    induction l with
    | nil => simp [PyData.depthAll]
    | cons x l ih => simp only [List.map_cons, PyData.depthAll, ih]; simp [PyData.depth]
  omega
theorem shaped_strs {l : List Str} (h : ∀ x ∈ l, PyData.strOk x = true) : SeqAt.shaped (.list (l.map .str)) = true := by
  unfold SeqAt.shaped
  rw [lay_strs l h, Bool.true_and]
  have := depth_strs l
  exact decide_eq_true (by omega)
theorem dp_txts {K : PySem.W.Frag} {H : Hp} {p : Addr} {l : List Str} (h : H p = some (.lst (l.map V.str))) : Dp K H (.ref p) (.list (l.map .str)) := by
  refine .lst (.of h) ?_
  clear h
  induction l with
  | nil => exact .nil
  | cons x l ih => exact .cons (.str x) ih
theorem eqv_strs {l m : List Str} : PyData.eqv (.list (l.map .str)) (.list (m.map .str)) = true ↔ l = m := by
  rw [PyData.eqv]
  induction l generalizing m with
  | nil => cases m <;> simp [PyData.eqvAll]
  | cons x l ih =>
    cases m with
    | nil => simp [PyData.eqvAll]
    | cons y m =>
      simp only [List.map_cons, PyData.eqvAll, Bool.and_eq_true, List.cons.injEq, ih]
      simp [PyData.eqv]
theorem signs_strs (z : Str) : signs z = (z.cps.toList.map one).map V.str := by unfold signs one; rw [List.map_map]; rfl
theorem ok_signs {z : Str} (h : PyData.strOk z = true) : ∀ x ∈ z.cps.toList.map one, PyData.strOk x = true := by
  intro x hx
  obtain ⟨c, hc, rfl⟩ := List.mem_map.mp hx
  unfold PyData.strOk at h ⊢
  rw [Array.all_eq_true_iff_forall_mem] at h
  have := h c (by simpa using hc)
  unfold one
  simpa using this
theorem code_small : ∀ k, k < 9 → code k < 1114112 := by decide
theorem ok_rcs (p : Nat → Bool) : ∀ x ∈ rcs p 9, PyData.strOk x = true := by
  intro x hx
  unfold rcs at hx
  obtain ⟨k, hk, rfl⟩ := List.mem_map.mp hx
  have k9 := List.mem_range.mp (List.mem_filter.mp hk).1
  have := code_small k k9
  unfold PyData.strOk one
  simpa using this


/-! ### rows -/
inductive Kind where
  | box | worth | offset | to | by_ | rights | doing | asked | test
  deriving DecidableEq
def Kind.nm : Kind → Str
  | .box => Str.ofString "box"
  | .worth => Str.ofString "worth"
  | .offset => Str.ofString "offset"
  | .to => Str.ofString "to"
  | .by_ => Str.ofString "by"
  | .rights => Str.ofString "rights"
  | .doing => Str.ofString "doing"
  | .asked => Str.ofString "asked"
  | .test => Str.ofString "test"
def wordsOf : Kind → List Str
  | .doing => [Str.ofString "plus", Str.ofString "minus", Str.ofString "times", Str.ofString "and", Str.ofString "or", Str.ofString "either"]
  | .asked => [Str.ofString "mark", Str.ofString "bits", Str.ofString "at", Str.ofString "low", Str.ofString "high", Str.ofString "rights", Str.ofString "kind"]
  | .test => [Str.ofString "same", Str.ofString "unlike", Str.ofString "under", Str.ofString "from"]
  | _ => []
def formsK : List (Str × List Kind) :=
  [(Str.ofString "set", [.box, .worth]), (Str.ofString "move", [.box, .box]), (Str.ofString "do", [.doing, .box, .by_]), (Str.ofString "walk", [.box, .by_]), (Str.ofString "narrow", [.box, .by_]), (Str.ofString "exact", [.box, .by_]),
   (Str.ofString "less", [.box, .rights]), (Str.ofString "seal", [.box, .box]), (Str.ofString "open", [.box, .box]), (Str.ofString "entry", [.box]), (Str.ofString "ask", [.box, .asked, .box]), (Str.ofString "here", [.box]),
   (Str.ofString "load", [.box, .box, .offset]), (Str.ofString "store", [.box, .offset, .box]), (Str.ofString "poke", [.box, .offset, .box]), (Str.ofString "jump", [.test, .box, .by_, .to]), (Str.ofString "go", [.to]), (Str.ofString "enter", [.box]),
   (Str.ofString "call", [.box]), (Str.ofString "back", []), (Str.ofString "room", [.box, .by_]), (Str.ofString "give", [.box])]
def wholeD : PyData → Int → Int → Bool
  | .int i, l, m => decide (l ≤ i ∧ i ≤ m)
  | _, _, _ => false
def oneOf (ws : List Str) : PyData → Bool
  | .str s => decide (s ∈ ws)
  | _ => false
def rightsD : PyData → Bool
  | .str s => decide (s = rtx (hasR s))
  | _ => false
def byD : PyData → Bool
  | .tuple [.str w, x] => if w = Kind.box.nm then wholeD x 0 7 else if w = Kind.worth.nm then wholeD x 0 65535 else false
  | _ => false
def partD : Kind → PyData → Bool
  | .box, d => wholeD d 0 7
  | .worth, d => wholeD d 0 65535
  | .offset, d => wholeD d (-8) 15
  | .to, d => wholeD d 0 4095
  | .by_, d => byD d
  | .rights, d => rightsD d
  | .doing, d => oneOf (wordsOf .doing) d
  | .asked, d => oneOf (wordsOf .asked) d
  | .test, d => oneOf (wordsOf .test) d
def partsD : List Kind → List PyData → Bool
  | [], [] => true
  | k :: ks, d :: ds => partD k d && partsD ks ds
  | _, _ => false
def rowD : PyData → Bool
  | .tuple (.str w :: ps) => (match look formsK w with
    | some ks => partsD ks ps
    | none => false)
  | _ => false
theorem lcons {P : V → Prop} {v : V} {vs : List V} (h : P v) (k : ∀ w ∈ vs, P w) : ∀ w ∈ v :: vs, P w := fun w hw => by
  rcases List.mem_cons.mp hw with e | e
  · rw [e]; exact h
  · exact k w e
theorem lnil {P : V → Prop} : ∀ w ∈ ([] : List V), P w := fun _ h => nomatch h
theorem whole_iff {H : Hp} {v : V} {d : PyData} (h : Dx H v d) (l m : Int) : wholeD d l m = true ↔ ∃ n, v = .int n ∧ l ≤ n ∧ n ≤ m := by
  cases h with
  | int i =>
    show decide _ = true ↔ _
    rw [decide_eq_true_iff]
    exact ⟨fun h => ⟨i, rfl, h⟩, fun ⟨n, e, h⟩ => by cases e; exact h⟩
  | _ => exact ⟨fun h => Bool.noConfusion h, fun ⟨n, e, _⟩ => nomatch e⟩
theorem bool_of {C : Prop} {b c : Bool} (h : b = true ↔ C) (h' : c = true ↔ C) : b = c := by rw [Bool.eq_iff_iff, h, h']
theorem inV_strs (s : Str) : ∀ ws : List Str, inV (.str s) (ws.map V.str) = decide (s ∈ ws)
  | [] => by simp [inV]
  | w :: ws => by
    have ih := inV_strs s ws
    have e : inV (.str s) (V.str w :: ws.map V.str) = (eqV (.str w) (.str s) || inV (.str s) (ws.map V.str)) := by
      first | rfl | (unfold inV; simp [List.any_cons])
    have e2 : eqV (.str w) (.str s) = decide (w = s) := by
      first | rfl | (unfold eqV; simp)
    rw [List.map_cons, e, ih, e2, Bool.eq_iff_iff, Bool.or_eq_true, decide_eq_true_iff, decide_eq_true_iff, decide_eq_true_iff, List.mem_cons]
    exact or_congr ⟨Eq.symm, Eq.symm⟩ Iff.rfl
theorem look_mem {α : Type} {z : Str} {a : α} : ∀ {l : List (Str × α)}, look l z = some a → (z, a) ∈ l
  | [], h => nomatch h
  | (k, b) :: r, h => by
    by_cases e : k = z
    · rw [look_pos e] at h
      cases h
      rw [e]
      exact List.mem_cons_self ..
    · rw [look_neg e] at h
      exact List.mem_cons_of_mem _ (look_mem h)
theorem forms_len {z : Str} {ks : List Kind} (h : look formsK z = some ks) : ks.length ≤ 4 := by
  have all : ∀ p ∈ formsK, p.2.length ≤ 4 := by decide +kernel
  exact all _ (look_mem h)
def badAt (ds : List PyData) : Option Nat := ds.findIdx? fun d => !rowD d
/-- what is due of a thing looked at as rows: none, or the number to refuse it with -/
def lookD : PyData → Option (Option Nat)
  | .list ds => if 1 ≤ ds.length ∧ ds.length ≤ 64 then (badAt ds).map some else some none
  | _ => some none
def numV : Option Nat → V
  | none => .non
  | some n => .int (n : Int)
/-- an error of the class by the name x may leave, its field f holding v, all else as it was -/
def LetsV (K : PySem.W.Frag) (x f : Str) (v : V) (H : Hp) (E : XK) : Prop := ∀ (C d : Addr) (H1 : Hp), PySem.W.nsIn K mainGlobals x = some (some (.ref C)) → Same H H1 → H1 d = none → E (.ref C) (some d) (upd H1 d (.xd [(f, v)]))
theorem badAt_none {ds : List PyData} {n : Nat} (hn : ds.length ≤ n) (h : ∀ i d, i < n → ds[i]? = some d → rowD d = true) : badAt ds = none := by
  unfold badAt
  rw [List.findIdx?_eq_none_iff]
  intro d hd
  obtain ⟨i, hi⟩ := List.getElem?_of_mem hd
  have := (List.getElem?_eq_some_iff.mp hi).1
  rw [h i d (by omega) hi]; rfl
theorem badAt_some {ds : List PyData} {n : Nat} {d : PyData} (h : ∀ i d, i < n → ds[i]? = some d → rowD d = true) (hd : ds[n]? = some d) (hb : rowD d = false) : badAt ds = some n := by
  unfold badAt
  obtain ⟨hn, e⟩ := List.getElem?_eq_some_iff.mp hd
  rw [List.findIdx?_eq_some_iff_getElem]
  refine ⟨hn, by rw [e, hb]; rfl, fun j hj => ?_⟩
  have := h j ds[j] hj (List.getElem?_eq_getElem (by omega))
  rw [this]; simp
theorem byD_len {ds : List PyData} (h : ds.length ≠ 2) : byD (.tuple ds) = false := by
  unfold byD
  split
  · rename_i e
    cases e
    exact absurd rfl h
  · rfl
theorem partsD_len : ∀ {ks : List Kind} {ds : List PyData}, partsD ks ds = true → ds.length = ks.length
  | [], [], _ => rfl
  | k :: ks, d :: ds, h => by
    unfold partsD at h
    rw [Bool.and_eq_true] at h
    rw [List.length_cons, List.length_cons, partsD_len h.2]
theorem partsD_all : ∀ {ks : List Kind} {ds : List PyData}, ds.length = ks.length → partsD ks ds = ((ks.zip ds).map fun p => partD p.1 p.2).all id
  | [], [], _ => rfl
  | k :: ks, d :: ds, h => by
    unfold partsD
    rw [List.zip_cons_cons, List.map_cons, List.all_cons, partsD_all (by simpa using h)]
    rfl

/-! ### the laws' own forms -/
def Kind.sg : Kind → Nat
  | .box => 98
  | .worth => 110
  | .offset => 111
  | .to => 116
  | .by_ => 121
  | .rights => 114
  | .doing => 100
  | .asked => 107
  | .test => 106
def sgs (ks : List Kind) : Str := ⟨(ks.map Kind.sg).toArray⟩
def formsV : List (Key × V) := formsK.map fun p => (Sum.inr p.1, V.str (sgs p.2))
def fA : List (Key × V) := [(Sum.inr (Str.ofString "set"), V.str (Str.ofString "bn")), (Sum.inr (Str.ofString "move"), V.str (Str.ofString "bb")), (Sum.inr (Str.ofString "do"), V.str (Str.ofString "dby")), (Sum.inr (Str.ofString "walk"), V.str (Str.ofString "by")), (Sum.inr (Str.ofString "narrow"), V.str (Str.ofString "by")), (Sum.inr (Str.ofString "exact"), V.str (Str.ofString "by")), (Sum.inr (Str.ofString "less"), V.str (Str.ofString "br"))]
def fB : List (Key × V) := [(Sum.inr (Str.ofString "seal"), V.str (Str.ofString "bb")), (Sum.inr (Str.ofString "open"), V.str (Str.ofString "bb")), (Sum.inr (Str.ofString "entry"), V.str (Str.ofString "b")), (Sum.inr (Str.ofString "ask"), V.str (Str.ofString "bkb")), (Sum.inr (Str.ofString "here"), V.str (Str.ofString "b")), (Sum.inr (Str.ofString "load"), V.str (Str.ofString "bbo")), (Sum.inr (Str.ofString "store"), V.str (Str.ofString "bob"))]
def fC : List (Key × V) := [(Sum.inr (Str.ofString "poke"), V.str (Str.ofString "bob")), (Sum.inr (Str.ofString "jump"), V.str (Str.ofString "jbyt")), (Sum.inr (Str.ofString "go"), V.str (Str.ofString "t")), (Sum.inr (Str.ofString "enter"), V.str (Str.ofString "b")), (Sum.inr (Str.ofString "call"), V.str (Str.ofString "b")), (Sum.inr (Str.ofString "back"), V.str (Str.ofString "")), (Sum.inr (Str.ofString "room"), V.str (Str.ofString "by"))]
def fD : List (Key × V) := [(Sum.inr (Str.ofString "give"), V.str (Str.ofString "b"))]
theorem putK_fresh {kvs : List (Key × V)} {k : Key} {v : V} (h : k ∉ kvs.map (·.1)) : putK kvs k v = kvs ++ [(k, v)] := by
  unfold putK
  rw [if_neg]
  rw [List.any_eq_true]
  rintro ⟨x, hx, e⟩
  exact h (List.mem_map.mpr ⟨x, hx, of_decide_eq_true e⟩)
theorem mergeK_fresh : ∀ (more kvs : List (Key × V)), ((kvs ++ more).map (·.1)).Nodup → mergeK kvs more = kvs ++ more
  | [], kvs, _ => by rw [List.append_nil]; rfl
  | p :: r, kvs, h => by
    have hp : p.1 ∉ kvs.map (·.1) := by
      rw [List.map_append, List.map_cons] at h
      have := (List.nodup_append.mp h).2.2
      intro hm
      exact this _ hm _ (List.mem_cons_self ..) rfl
    show mergeK (putK kvs p.1 p.2) r = _
    rw [putK_fresh hp, mergeK_fresh r _ (by rw [List.append_assoc]; exact h), List.append_assoc]
    rfl
def keysOf (l : List (Key × V)) : List Key := l.map (·.1)
theorem mA : mergeK [] fA = fA := mergeK_fresh fA [] (by show (keysOf fA).Nodup; decide +kernel)
theorem mB : mergeK [] fB = fB := mergeK_fresh fB [] (by show (keysOf fB).Nodup; decide +kernel)
theorem mC : mergeK [] fC = fC := mergeK_fresh fC [] (by show (keysOf fC).Nodup; decide +kernel)
theorem mAB : mergeK fA fB = fA ++ fB := mergeK_fresh fB fA (by show (keysOf (fA ++ fB)).Nodup; decide +kernel)
theorem mABC : mergeK (fA ++ fB) fC = fA ++ fB ++ fC := mergeK_fresh fC _ (by show (keysOf (fA ++ fB ++ fC)).Nodup; decide +kernel)
theorem mD : putK (fA ++ fB ++ fC) (Sum.inr (Str.ofString "give")) (V.str (Str.ofString "b")) = formsV := by
  show mergeK (fA ++ fB ++ fC) fD = formsV
  rw [mergeK_fresh fD (fA ++ fB ++ fC) (by show (keysOf (fA ++ fB ++ fC ++ fD)).Nodup; decide +kernel)]
  rfl
theorem formsV_val (z : Str) : valV formsV (Sum.inr z) = (look formsK z).map fun ks => V.str (sgs ks) := by
  unfold formsV
  generalize formsK = l
  induction l with
  | nil => rfl
  | cons p r ih =>
    obtain ⟨k, a⟩ := p
    rw [List.map_cons]
    unfold valV at ih ⊢
    rw [List.find?_cons]
    by_cases h : k = z
    · rw [look_pos h, h, decide_eq_true (rfl : (Sum.inr z : Key) = Sum.inr z)]
      rfl
    · have n : (Sum.inr k : Key) ≠ Sum.inr z := fun e => h (Sum.inr.inj e)
      rw [look_neg h]
      have d : decide ((Sum.inr k : Key) = Sum.inr z) = false := decide_eq_false n
      dsimp only
      rw [d]
      exact ih
theorem formsV_keys : formsV.map (·.1) = (formsK.map (·.1)).map Sum.inr := by
  unfold formsV
  rw [List.map_map, List.map_map]
  rfl
theorem forms_some {z : Str} (h : z ∈ formsK.map (·.1)) : ∃ ks, look formsK z = some ks := by
  revert h
  generalize formsK = l
  induction l with
  | nil => intro h; cases h
  | cons p r ih =>
    obtain ⟨k, a⟩ := p
    intro h
    by_cases e : k = z
    · exact ⟨a, look_pos e⟩
    · rcases List.mem_cons.mp h with q | q
      · exact absurd q.symm e
      · obtain ⟨ks, q⟩ := ih q
        exact ⟨ks, (look_neg e).trans q⟩
theorem sg_one : one 98 = Str.ofString "b" ∧ one 110 = Str.ofString "n" ∧ one 111 = Str.ofString "o" ∧ one 116 = Str.ofString "t" ∧ one 121 = Str.ofString "y" ∧ one 114 = Str.ofString "r" ∧ one 100 = Str.ofString "d" ∧ one 107 = Str.ofString "k" ∧ one 106 = Str.ofString "j" := by decide +kernel
theorem sg_ne {a b : Nat} (h : a ≠ b) : V.str (one a) ≠ V.str (one b) := fun e => h (by
  have := V.str.inj e
  unfold one at this
  injection this with this
  simpa using this)
def worded : Kind → Bool
  | .doing | .asked | .test => true
  | _ => false

/-! ### what is new -/
/-- of H' what did not stand in H -/
def news (H H' : Hp) : Hp := fun b => match H b with
  | none => H' b
  | some _ => none
theorem news_at {H H' : Hp} {p : Addr} {o : HO} (n : H p = none) (e : H' p = some o) : news H H' p = some o := by unfold news; rw [n]; exact e
theorem news_of {H H' : Hp} {p : Addr} {o : HO} (e : news H H' p = some o) : H p = none ∧ H' p = some o := by
  unfold news at e
  split at e
  · rename_i q; exact ⟨q, e⟩
  · cases e
theorem news_same (H H' : Hp) : Same (news H H') H' := fun b o e => (news_of e).2
theorem news_but {H H' H'' : Hp} {a : Addr} {o : HO} (ha : H a = some o) (s : But a H' H'') : Same (news H H') (news H H'') := fun b x e => by
  obtain ⟨n, e⟩ := news_of e
  exact news_at n (s b x (fun z => by rw [z, ha] at n; cases n) e)
theorem news_mono {H H1 H' : Hp} (s : ∀ b, H1 b = none → H b = none) : Same (news H1 H') (news H H') := fun b o e => by
  obtain ⟨n, e⟩ := news_of e
  exact news_at (s b n) e
theorem But.fre {a p : Addr} {H H' : Hp} {o : HO} (s : But a H H') (ha : H' a = some o) (n : H' p = none) : H p = none := by
  cases e : H p with
  | none => rfl
  | some x =>
    have := s p x (fun z => by rw [z, ha] at n; cases n) e
    rw [this] at n; cases n
theorem But.dom {a : Addr} {H H' : Hp} {o : HO} (s : But a H H') (ha : H' a = some o) : ∀ b, H' b = none → H b = none := fun _ n => s.fre ha n
theorem rcs_same {f g : Nat → Bool} {i : Nat} (h : ∀ k, k < i → f k = g k) : rcs f i = rcs g i := by
  unfold rcs
  rw [List.filter_congr fun k hk => h k (List.mem_range.mp hk)]
theorem rtx_back (f : Nat → Bool) : rtx (hasR (rtx f)) = rtx f := by
  show Txt.join _ (rcs _ 9) = Txt.join _ (rcs _ 9)
  rw [rcs_same (g := f) fun k hk => by
    unfold hasR
    rw [Bool.eq_iff_iff, decide_eq_true_iff]
    exact rtx_mem f hk]
theorem rcs_put (f : Nat → Bool) (i : Nat) (b : Bool) : rcs (fun k => if k = i then b else f k) (i + 1) = rcs f i ++ (if b = true then [one (code i)] else []) := by
  rw [rcs_succ, if_pos rfl, rcs_same (g := f) fun k hk => by rw [if_neg (by omega)]]
theorem rtx_str (f : Nat → Bool) : PyData.strOk (rtx f) = true := by
  unfold PyData.strOk
  rw [Array.all_eq_true_iff_forall_mem]
  intro c hc
  have hc : c ∈ (rtx f).cps.toList := by simpa using hc
  rw [rtx_codes] at hc
  obtain ⟨k, hk, rfl⟩ := List.mem_map.mp hc
  have low : ∀ k, k < 9 → code k < 128 := by decide
  exact decide_eq_true (Nat.lt_trans (low k (List.mem_range.mp (List.mem_filter.mp hk).1)) (by decide))
theorem words_nice : ∀ k : Kind, ∀ s ∈ wordsOf k, Nice 30 1 (.str s) := by
  intro k s hs
  refine nice_lit ?_
  have all : ∀ s ∈ wordsOf .doing ++ wordsOf .asked ++ wordsOf .test, (PyData.strOk s && decide (s.cps.size ≤ 30)) = true := by decide +kernel
  cases k <;> first | exact all s (by simp only [List.mem_append]; exact .inl (.inl hs)) | exact all s (by simp only [List.mem_append]; exact .inl (.inr hs)) | exact all s (by simp only [List.mem_append]; exact .inr hs) | cases hs
theorem news_upd {G H' : Hp} {D : Addr} {o x : HO} (h : G D = some x) : Same (news G H') (news G (upd H' D o)) := fun b y e => by
  obtain ⟨n, e⟩ := news_of e
  exact news_at n (by rw [upd_ne (fun z => by rw [z, h] at n; cases n)]; exact e)
theorem partsD_app : ∀ {ks : List Kind} {ds : List PyData} {k : Kind} {d : PyData}, partsD ks ds = true → partD k d = true → partsD (ks ++ [k]) (ds ++ [d]) = true
  | [], [], k, d, _, h => by show (partD k d && true) = true; rw [h]; rfl
  | k :: ks, d :: ds, k', d', h, h' => by
    unfold partsD at h
    rw [Bool.and_eq_true] at h
    show (partD k d && partsD (ks ++ [k']) (ds ++ [d'])) = true
    rw [h.1, partsD_app h.2 h']; rfl
theorem sgs_size (ks : List Kind) : (sgs ks).cps.size = ks.length := by unfold sgs; simp
theorem sgs_at {ks : List Kind} {i c : Nat} (h : (sgs ks).cps[i]? = some c) : ∃ k, ks[i]? = some k ∧ c = k.sg := by
  unfold sgs at h
  rw [List.getElem?_toArray, List.getElem?_map] at h
  cases e : ks[i]? with
  | none => rw [e] at h; cases h
  | some k => rw [e] at h; exact ⟨k, rfl, (Option.some.inj h).symm⟩
theorem word_nice {w : Str} (h : w ∈ formsK.map (·.1)) : Nice 6 1 (.str w) := by
  refine nice_lit ?_
  have all : ∀ w ∈ formsK.map (·.1), (PyData.strOk w && decide (w.cps.size ≤ 6)) = true := by decide +kernel
  exact all w h
theorem DxAll.snoc {H : Hp} {vs : List V} {ds : List PyData} {v : V} {d : PyData} (h : DxAll H vs ds) (k : Dx H v d) : DxAll H (vs ++ [v]) (ds ++ [d]) := h.app (.cons k .nil)
theorem But.put {p D : Addr} {G H' : Hp} {o : HO} (s : But p G H') (n : G D = none) : But p G (L2.upd H' D o) := fun b x nb h => by
  rw [upd_ne (ne_of_none h n)]; exact s b x nb h

theorem hu65 {A : Around} {k : Nat} (hr : Room k A) : A.units + 65 < cLine := by have := hr.un; omega
theorem valV_look (z : Str) : ∀ l : List (Str × V), valV (l.map fun p => ((Sum.inr p.1 : Key), p.2)) (Sum.inr z) = look l z
  | [] => rfl
  | (k, a) :: r => by
    rw [List.map_cons]
    have ih := valV_look z r
    unfold valV at ih ⊢
    rw [List.find?_cons]
    by_cases h : k = z
    · rw [look_pos h, h, decide_eq_true (rfl : (Sum.inr z : Key) = Sum.inr z)]
      rfl
    · have n : (Sum.inr k : Key) ≠ Sum.inr z := fun e => h (Sum.inr.inj e)
      rw [look_neg h]
      dsimp only
      rw [decide_eq_false n]
      exact ih
def numOfK : Kind → Option (Int × Int)
  | .box => some (0, 7)
  | .worth => some (0, 65535)
  | .offset => some (-8, 15)
  | .to => some (0, 4095)
  | _ => none
theorem part_numK {k : Kind} {l m : Int} (h : numOfK k = some (l, m)) (d : PyData) : partD k d = wholeD d l m := by
  cases k <;> first | (cases h; rfl) | (cases h)
theorem in_bnot (k : Kind) : decide (k.sg ∈ (Str.ofString "bnot").cps.toList) = (numOfK k).isSome := by
  cases k <;> decide +kernel
def four (t1 t2 t3 t4 : Addr) : List (Str × V) := [(Str.ofString "b", .ref t1), (Str.ofString "n", .ref t2), (Str.ofString "o", .ref t3), (Str.ofString "t", .ref t4)]
theorem four_merge (t1 t2 t3 t4 : Addr) : mergeK [] ((four t1 t2 t3 t4).map fun p => ((Sum.inr p.1 : Key), p.2)) = (four t1 t2 t3 t4).map fun p => ((Sum.inr p.1 : Key), p.2) :=
  mergeK_fresh _ [] (by show ([Sum.inr (Str.ofString "b"), Sum.inr (Str.ofString "n"), Sum.inr (Str.ofString "o"), Sum.inr (Str.ofString "t")] : List Key).Nodup; decide +kernel)
theorem four_at {t1 t2 t3 t4 : Addr} {k : Kind} {l m : Int} (h : numOfK k = some (l, m)) : ∃ t, look (four t1 t2 t3 t4) (one k.sg) = some (.ref t) ∧ (t = t1 ∧ l = 0 ∧ m = 7 ∨ t = t2 ∧ l = 0 ∧ m = 65535 ∨ t = t3 ∧ l = -8 ∧ m = 15 ∨ t = t4 ∧ l = 0 ∧ m = 4095) := by
  obtain ⟨e1, e2, e3, e4, e5, e6, e7, e8, e9⟩ := sg_one
  unfold four
  cases k with
  | box => cases h; exact ⟨t1, by show look _ (one 98) = _; rw [e1]; walk_at "look", .inl ⟨rfl, rfl, rfl⟩⟩
  | worth => cases h; exact ⟨t2, by show look _ (one 110) = _; rw [e2]; walk_at "look", .inr (.inl ⟨rfl, rfl, rfl⟩)⟩
  | offset => cases h; exact ⟨t3, by show look _ (one 111) = _; rw [e3]; walk_at "look", .inr (.inr (.inl ⟨rfl, rfl, rfl⟩))⟩
  | to => cases h; exact ⟨t4, by show look _ (one 116) = _; rw [e4]; walk_at "look", .inr (.inr (.inr ⟨rfl, rfl, rfl⟩))⟩
  | _ => cases h

theorem any_strs (w : Str) : ∀ l : List Str, ((l.map PyData.str).any fun z => PyData.eqv z (.str w)) = decide (w ∈ l)
  | [] => rfl
  | x :: r => by
    have e : PyData.eqv (.str x) (.str w) = decide (x = w) := by
      rw [Bool.eq_iff_iff, decide_eq_true_iff]
      simp [PyData.eqv]
    rw [List.map_cons, List.any_cons, any_strs w r, e, Bool.eq_iff_iff, Bool.or_eq_true, decide_eq_true_iff, decide_eq_true_iff, decide_eq_true_iff, List.mem_cons]
    exact or_congr ⟨Eq.symm, Eq.symm⟩ Iff.rfl
theorem any_not {d : PyData} (l : List Str) (h : dStr d = false) : ((l.map PyData.str).any fun z => PyData.eqv z d) = false := by
  rw [List.any_eq_false]
  intro z hz
  obtain ⟨s, _, rfl⟩ := List.mem_map.mp hz
  cases d with
  | str w => cases h
  | _ => simp [PyData.eqv]
theorem words_ok : ∀ k : Kind, ∀ s ∈ wordsOf k, PyData.strOk s = true := fun k s hs => by
  have := (words_nice k s hs).ly
  simpa [PyData.canLay0] using this

theorem cut1 {x : V} {xr : List V} : cutV (x :: xr) (some 1) none = xr := by
  unfold cutV
  rw [show HT.sIx (x :: xr).length 0 (some 1) = min 1 (x :: xr).length from HT.sIx_nat _ _ 1, HT.sIx_none, List.length_cons, show min 1 (xr.length + 1) = 1 by omega]
  simp
theorem signs_sgs (ks : List Kind) : signs (sgs ks) = ks.map fun k => V.str (one k.sg) := by
  unfold signs sgs one
  simp
def badK (ks : List Kind) (ds : List PyData) : List Kind := ((ks.zip ds).filter fun p => !partD p.1 p.2).map (·.1)
theorem badK_iff : ∀ {ks : List Kind} {ds : List PyData}, ds.length = ks.length → (badK ks ds).isEmpty = partsD ks ds
  | [], [], _ => rfl
  | k :: ks, d :: ds, h => by
    have ih := badK_iff (ks := ks) (ds := ds) (by simpa using h)
    unfold badK at ih ⊢
    rw [List.zip_cons_cons, List.filter_cons]
    show _ = (partD k d && partsD ks ds)
    cases e : partD k d with
    | true => simp only [Bool.not_true, Bool.false_eq_true, if_false, Bool.true_and]; exact ih
    | false => simp
theorem badK_take (ks : List Kind) (ds : List PyData) {i : Nat} {k : Kind} {d : PyData} (hk : ks[i]? = some k) (hd : ds[i]? = some d) : badK (ks.take (i + 1)) (ds.take (i + 1)) = badK (ks.take i) (ds.take i) ++ (if partD k d = true then [] else [k]) := by
  have e : (ks.take (i + 1)).zip (ds.take (i + 1)) = (ks.take i).zip (ds.take i) ++ [(k, d)] := by
    rw [List.take_add_one, List.take_add_one, hk, hd, List.zip_append (by
      have h1 := (List.getElem?_eq_some_iff.mp hk).1
      have h2 := (List.getElem?_eq_some_iff.mp hd).1
      rw [List.length_take, List.length_take]; omega)]
    rfl
  unfold badK
  rw [e, List.filter_append, List.map_append]
  congr 1
  cases h : partD k d <;> simp [h]
theorem badK_len (ks : List Kind) (ds : List PyData) : (badK ks ds).length ≤ ks.length := by
  unfold badK
  rw [List.length_map]
  refine Nat.le_trans (List.length_filter_le _ _) ?_
  rw [List.length_zip]
  exact Nat.min_le_left _ _
theorem ones_ok (l : List Kind) : ∀ s ∈ l.map (fun k => one k.sg), PyData.strOk s = true := fun s hs => by
  obtain ⟨k, _, rfl⟩ := List.mem_map.mp hs
  cases k <;> decide +kernel
theorem eqv_none (l : List Str) : PyData.eqv (.list (l.map .str)) (.list []) = l.isEmpty := by
  cases l with
  | nil => rfl
  | cons c l => simp [PyData.eqv, PyData.eqvAll]
/-! ### whole numbers as texts -/
def numI (i : Int) : List Nat := if i < 0 then 45 :: TL.numL (-i).toNat else TL.numL i.toNat
theorem num_text (i : Int) : Str.ofString (toString i) = SX.S (numI i) := by
  rcases Int.lt_or_le i 0 with h | h
  · obtain ⟨n, rfl⟩ : ∃ n : Nat, i = Int.negSucc n := by
      cases i with
      | ofNat n => exact absurd h (by simp)
      | negSucc n => exact ⟨n, rfl⟩
    unfold numI
    rw [if_pos h]
    have e : (-(Int.negSucc n)).toNat = n + 1 := rfl
    rw [e]
    refine TL.ext_tl ?_
    have t : toString (Int.negSucc n) = "-" ++ toString (((n + 1 : Nat)) : Int) := rfl
    rw [t, TL.tl_ofString, String.toList_append, List.map_append]
    have := TL.tl_num (n + 1)
    rw [TL.tl_ofString] at this
    rw [this]
    rfl
  · obtain ⟨n, rfl⟩ : ∃ n : Nat, i = (n : Int) := ⟨i.toNat, by omega⟩
    unfold numI
    rw [if_neg (by omega), Int.toNat_natCast]
    exact SX.num_S n
def isF (c : Nat) : Bool := decide (48 ≤ c) && decide (c ≤ 57)
def negL (z : List Nat) : Bool := decide (z.head? = some 45)
def figs (z : List Nat) : List Nat := if negL z = true then z.tail else z
def wholeOk (z : List Nat) : Bool := !(figs z).isEmpty && (figs z).all isF && decide ((figs z).length ≤ 30) && (decide ((figs z).head? ≠ some 48) || decide (z = [48]))
def wholeV (z : List Nat) : Int := if negL z = true then -((NumText.digitsVal (figs z) : Nat) : Int) else ((NumText.digitsVal (figs z) : Nat) : Int)
def wholeIn (z : List Nat) : PyData := if wholeOk z = true then .int (wholeV z) else .none
theorem S_one {c : Nat} : SX.S [c] = one c := rfl
theorem rem_S (z : List Nat) : Txt.removeprefix (SX.S z) (SX.S [45]) = SX.S (figs z) := by
  rw [PySem.StrLaws.removeprefix_eq, PySem.StrLaws.subAt_eq]
  have l1 : (SX.S [45]).length = 1 := rfl
  rw [l1, SX.S_len]
  unfold figs negL
  cases z with
  | nil => rfl
  | cons a r =>
    by_cases h : a = 45
    · subst h
      have t : (decide (0 + 1 ≤ (45 :: r).length) && (((SX.S (45 :: r)).cps.toList.drop 0).take 1 == (SX.S [45]).cps.toList)) = true := by
        simp
      rw [if_pos t, if_pos (by simp)]
      congr 1
      simp
    · have t : ¬ (decide (0 + 1 ≤ (a :: r).length) && (((SX.S (a :: r)).cps.toList.drop 0).take 1 == (SX.S [45]).cps.toList)) = true := by
        simp [h]
      rw [if_neg t, if_neg (by simp [h])]
theorem asc_S (f : List Nat) : Txt.isascii (SX.S f) = f.all (fun c => decide (c < 128)) := by
  unfold Txt.isascii
  rw [← Array.all_toList]
theorem dig_one {c : Nat} (h : c < 128) : Unicode.isDigit c = isF c := by
  have := PySem.W.os_isdigit h
  unfold Txt.isdigit at this
  simpa [isF, Str.length] using this
theorem dig_S {f : List Nat} (h : f.all (fun c => decide (c < 128)) = true) : Txt.isdigit (SX.S f) = (!f.isEmpty && f.all isF) := by
  unfold Txt.isdigit
  rw [← Array.all_toList]
  have e : f.all Unicode.isDigit = f.all isF := by
    induction f with
    | nil => rfl
    | cons c r ih =>
      simp only [List.all_cons, Bool.and_eq_true, decide_eq_true_iff] at h ⊢
      rw [dig_one h.1, ih h.2]
  have l : decide ((SX.S f).length > 0) = !f.isEmpty := by
    rw [SX.S_len]
    cases f <;> simp
  rw [l]
  show (_ && f.all Unicode.isDigit) = _
  rw [e]
theorem allF {f : List Nat} (h : f.all isF = true) : NumText.AllDigits f := fun c hc => by
  have := List.all_eq_true.mp h c hc
  unfold isF at this
  simpa using this
theorem asc_of {f : List Nat} (h : f.all isF = true) : f.all (fun c => decide (c < 128)) = true := by
  rw [List.all_eq_true]
  intro c hc
  have := allF h c hc
  exact decide_eq_true (by omega)
theorem whole_int {z : List Nat} (h : wholeOk z = true) : intText? (SX.S z) = some (wholeV z) := by
  unfold wholeOk at h
  simp only [Bool.and_eq_true, decide_eq_true_iff, Bool.not_eq_true'] at h
  obtain ⟨⟨⟨h1, h2⟩, h3⟩, _⟩ := h
  have ne : figs z ≠ [] := by intro e; rw [e] at h1; cases h1
  unfold wholeV
  unfold figs at ne h2 h3 ⊢
  by_cases c : negL z = true
  · rw [if_pos c] at ne h2 h3 ⊢
    rw [if_pos c]
    obtain ⟨r, rfl⟩ : ∃ r, z = 45 :: r := by
      have := of_decide_eq_true c
      cases z with
      | nil => cases this
      | cons a r => exact ⟨r, by rw [Option.some.inj this]⟩
    refine intText_neg (cs := r) rfl (allF h2) ne ?_
    rw [SX.S_len]
    have : r.length ≤ 30 := h3
    rw [List.length_cons]; omega
  · rw [if_neg c] at ne h2 h3 ⊢
    rw [if_neg c]
    refine intText_digits (x := SX.S z) (allF h2) ne ?_
    rw [SX.S_len]
    omega
theorem numL_head {n : Nat} (h : 0 < n) : (TL.numL n).head? ≠ some 48 := by
  induction n using Nat.strongRecOn with
  | ind n ih =>
    by_cases c : n < 10
    · rw [TL.numL_lt c]
      simp; omega
    · rw [TL.numL_step (by omega)]
      have := ih (n / 10) (by omega) (by omega)
      have ne := TL.numL_ne (n / 10)
      cases e : TL.numL (n / 10) with
      | nil => exact absurd e ne
      | cons a r => rw [e] at this; simpa using this
theorem numL_all (n : Nat) : (TL.numL n).all isF = true := by
  rw [List.all_eq_true]
  intro c hc
  have := TL.numL_digits n c hc
  unfold isF
  simp; exact this
theorem numL_not45 (n : Nat) : negL (TL.numL n) = false := by
  unfold negL
  refine decide_eq_false fun h => ?_
  have ne := TL.numL_ne n
  cases e : TL.numL n with
  | nil => exact ne e
  | cons a r =>
    rw [e] at h
    have : a = 45 := Option.some.inj h
    have := TL.numL_digits n a (by rw [e]; exact List.mem_cons_self ..)
    omega
theorem whole_num {i : Int} (h : i.natAbs < 10 ^ 29) : wholeIn (numI i) = .int i := by
  have key : ∀ n : Nat, n < 10 ^ 29 → (TL.numL n).length ≤ 29 := fun n hn => TL.numL_len (by decide) hn
  rcases Int.lt_or_le i 0 with c | c
  · have e : numI i = 45 :: TL.numL (-i).toNat := by unfold numI; rw [if_pos c]
    have n1 : negL (numI i) = true := by rw [e]; rfl
    have f : figs (numI i) = TL.numL (-i).toNat := by unfold figs; rw [if_pos n1, e]; rfl
    have ok : wholeOk (numI i) = true := by
      unfold wholeOk
      rw [f, numL_all]
      have h1 := key (-i).toNat (by omega)
      have h2 := numL_head (n := (-i).toNat) (by omega)
      have h3 := TL.numL_ne (-i).toNat
      simp [h2, h3]; omega
    unfold wholeIn
    rw [if_pos ok]
    unfold wholeV
    rw [if_pos n1, f, TL.numL_val]
    congr 1; omega
  · have e : numI i = TL.numL i.toNat := by unfold numI; rw [if_neg (by omega)]
    have n1 : negL (numI i) = false := by rw [e]; exact numL_not45 _
    have f : figs (numI i) = TL.numL i.toNat := by unfold figs; rw [n1, if_neg (by decide), e]
    have ok : wholeOk (numI i) = true := by
      unfold wholeOk
      rw [f, numL_all]
      have h1 := key i.toNat (by omega)
      have h3 := TL.numL_ne i.toNat
      by_cases z : i = 0
      · subst z
        have : TL.numL (0 : Int).toNat = [48] := TL.numL_lt (by decide)
        rw [e, this]; rfl
      · have h2 := numL_head (n := i.toNat) (by omega)
        simp [h2, h3]; omega
    unfold wholeIn
    rw [if_pos ok]
    unfold wholeV
    rw [n1, if_neg (by decide), f, TL.numL_val]
    congr 1; omega
theorem numI_codes {i : Int} {c : Nat} (h : c ∈ numI i) : c = 45 ∨ (48 ≤ c ∧ c ≤ 57) := by
  unfold numI at h
  split at h
  · rcases List.mem_cons.mp h with e | e
    · exact .inl e
    · exact .inr (TL.numL_digits _ _ e)
  · exact .inr (TL.numL_digits _ _ h)
theorem numI_len {i : Int} {k : Nat} (hk : 0 < k) (h : i.natAbs < 10 ^ k) : (numI i).length ≤ k + 1 := by
  unfold numI
  split
  · have := TL.numL_len (n := (-i).toNat) hk (by omega)
    rw [List.length_cons]; omega
  · have := TL.numL_len (n := i.toNat) hk (by omega)
    omega
theorem numI_ne (i : Int) : numI i ≠ [] := by
  unfold numI
  split
  · exact List.cons_ne_nil _ _
  · exact TL.numL_ne _
/-! ### parts of rows as texts -/
def rightsIn (z : List Nat) : PyData := if z = [] then .none else if z = [45] then .str (SX.S []) else .str (SX.S z)
def byIn (z : List Nat) : PyData := if z.head? = some 35 then .tuple [.str Kind.worth.nm, wholeIn z.tail] else .tuple [.str Kind.box.nm, wholeIn z]
def partIn : Kind → List Nat → PyData
  | .box, z => wholeIn z
  | .worth, z => wholeIn z
  | .offset, z => wholeIn z
  | .to, z => wholeIn z
  | .by_, z => byIn z
  | .rights, z => rightsIn z
  | _, z => .str (SX.S z)
def partL : Kind → PyData → List Nat
  | .by_, .tuple [.str w, .int i] => if w = Kind.worth.nm then 35 :: numI i else numI i
  | .rights, .str s => if s.cps.toList = [] then [45] else s.cps.toList
  | .by_, _ => []
  | .rights, _ => []
  | _, .int i => numI i
  | _, .str s => s.cps.toList
  | _, _ => []
theorem S_back (s : Str) : SX.S s.cps.toList = s := SX.S_tl s
theorem wholeD_int {d : PyData} {l m : Int} (h : wholeD d l m = true) : ∃ i, d = .int i ∧ l ≤ i ∧ i ≤ m := by
  cases d <;> first | (exact ⟨_, rfl, (of_decide_eq_true h).1, (of_decide_eq_true h).2⟩) | cases h
theorem byD_is {d : PyData} (h : byD d = true) : ∃ w i, d = .tuple [.str w, .int i] ∧ ((w = Kind.box.nm ∧ 0 ≤ i ∧ i ≤ 7) ∨ (w = Kind.worth.nm ∧ 0 ≤ i ∧ i ≤ 65535)) := by
  unfold byD at h
  split at h
  · rename_i w x
    split at h
    · rename_i c
      obtain ⟨i, rfl, a, b⟩ := wholeD_int h
      exact ⟨w, i, rfl, .inl ⟨c, a, b⟩⟩
    · split at h
      · rename_i c
        obtain ⟨i, rfl, a, b⟩ := wholeD_int h
        exact ⟨w, i, rfl, .inr ⟨c, a, b⟩⟩
      · cases h
  · cases h
theorem box_ne_worth : Kind.box.nm ≠ Kind.worth.nm := by decide +kernel
theorem numI_head {i : Int} (h : (numI i).head? = some 35) : False := by
  cases e : numI i with
  | nil => exact numI_ne i e
  | cons a r =>
    rw [e] at h
    have : a = 35 := Option.some.inj h
    rcases numI_codes (i := i) (c := a) (by rw [e]; exact List.mem_cons_self ..) with q | q <;> omega
theorem rtx_codes_mem {f : Nat → Bool} {c : Nat} (h : c ∈ (rtx f).cps.toList) : ∃ k, k < 9 ∧ c = code k := by
  rw [rtx_codes] at h
  obtain ⟨k, hk, e⟩ := List.mem_map.mp h
  exact ⟨k, List.mem_range.mp (List.mem_filter.mp hk).1, e.symm⟩
theorem code_big : ∀ k, k < 9 → 97 ≤ code k ∧ code k ≤ 122 := by decide
theorem part_back : ∀ {k : Kind} {d : PyData}, partD k d = true → partIn k (partL k d) = d := by
  have num : ∀ {d : PyData} {l m : Int}, wholeD d l m = true → -100000 ≤ l → m ≤ 100000 → ∃ i, d = .int i ∧ wholeIn (numI i) = d := fun {d l m} h a b => by
    obtain ⟨i, rfl, c, e⟩ := wholeD_int h
    exact ⟨i, rfl, whole_num (by omega)⟩
  intro k d h
  cases k with
  | box => obtain ⟨i, rfl, e⟩ := num (l := 0) (m := 7) h (by decide) (by decide); exact e
  | worth => obtain ⟨i, rfl, e⟩ := num (l := 0) (m := 65535) h (by decide) (by decide); exact e
  | offset => obtain ⟨i, rfl, e⟩ := num (l := -8) (m := 15) h (by decide) (by decide); exact e
  | to => obtain ⟨i, rfl, e⟩ := num (l := 0) (m := 4095) h (by decide) (by decide); exact e
  | by_ =>
    obtain ⟨w, i, rfl, q⟩ := byD_is h
    rcases q with ⟨rfl, a, b⟩ | ⟨rfl, a, b⟩
    · show byIn (if Kind.box.nm = Kind.worth.nm then 35 :: numI i else numI i) = _
      rw [if_neg box_ne_worth]
      unfold byIn
      rw [if_neg (fun z => numI_head z), whole_num (by omega)]
    · show byIn (if Kind.worth.nm = Kind.worth.nm then 35 :: numI i else numI i) = _
      rw [if_pos rfl]
      unfold byIn
      have hh : (35 :: numI i).head? = some 35 := rfl
      rw [if_pos hh]
      show PyData.tuple [_, wholeIn (numI i)] = _
      rw [whole_num (by omega)]
  | rights =>
    cases d with
    | str s =>
      have e : s = rtx (hasR s) := of_decide_eq_true h
      show rightsIn (if s.cps.toList = [] then [45] else s.cps.toList) = _
      unfold rightsIn
      by_cases c : s.cps.toList = []
      · rw [if_pos c, if_neg (by simp), if_pos rfl, ← c, S_back]
      · rw [if_neg c, if_neg c, if_neg, S_back]
        intro z
        have m : 45 ∈ (rtx (hasR s)).cps.toList := by rw [← e, z]; exact List.mem_cons_self ..
        obtain ⟨k, hk, q⟩ := rtx_codes_mem m
        have := code_big k hk
        omega
    | _ => cases h
  | doing => cases d <;> first | (exact congrArg PyData.str (S_back _)) | cases h
  | asked => cases d <;> first | (exact congrArg PyData.str (S_back _)) | cases h
  | test => cases d <;> first | (exact congrArg PyData.str (S_back _)) | cases h
/-- signs of a part: not a blank, not a line feed -/
theorem words_free : ∀ k : Kind, ∀ s ∈ wordsOf k, ∀ c ∈ s.cps.toList, 33 ≤ c := by
  intro k s hs
  have all : ∀ s ∈ wordsOf .doing ++ wordsOf .asked ++ wordsOf .test, ∀ c ∈ s.cps.toList, 33 ≤ c := by decide +kernel
  cases k <;> first | exact all s (by simp only [List.mem_append]; exact .inl (.inl hs)) | exact all s (by simp only [List.mem_append]; exact .inl (.inr hs)) | exact all s (by simp only [List.mem_append]; exact .inr hs) | cases hs
theorem words_lens : ∀ k : Kind, ∀ s ∈ wordsOf k, s.cps.toList.length ≤ 10 := by
  intro k s hs
  have all : ∀ s ∈ wordsOf .doing ++ wordsOf .asked ++ wordsOf .test, s.cps.toList.length ≤ 10 := by decide +kernel
  cases k <;> first | exact all s (by simp only [List.mem_append]; exact .inl (.inl hs)) | exact all s (by simp only [List.mem_append]; exact .inl (.inr hs)) | exact all s (by simp only [List.mem_append]; exact .inr hs) | cases hs
theorem part_codes {k : Kind} {d : PyData} (h : partD k d = true) : (∀ c ∈ partL k d, 33 ≤ c) ∧ (partL k d).length ≤ 10 := by
  have num : ∀ {i : Int}, i.natAbs < 10 ^ 6 → (∀ c ∈ numI i, 33 ≤ c) ∧ (numI i).length ≤ 7 := fun {i} a => ⟨fun c hc => by rcases numI_codes hc with e | e <;> omega, numI_len (by decide) a⟩
  have num2 : ∀ {d : PyData} {l m : Int}, wholeD d l m = true → -100000 ≤ l → m ≤ 100000 → ∃ i, d = .int i ∧ (∀ c ∈ numI i, 33 ≤ c) ∧ (numI i).length ≤ 10 := fun {d l m} h a b => by
    obtain ⟨i, rfl, c, e⟩ := wholeD_int h
    have := num (i := i) (by omega)
    exact ⟨i, rfl, this.1, by omega⟩
  have word : ∀ {k : Kind} {d : PyData}, oneOf (wordsOf k) d = true → ∃ s, d = .str s ∧ (∀ c ∈ s.cps.toList, 33 ≤ c) ∧ s.cps.toList.length ≤ 10 := fun {k d} h => by
    cases d with
    | str s => exact ⟨s, rfl, words_free k s (of_decide_eq_true h), words_lens k s (of_decide_eq_true h)⟩
    | _ => cases h
  cases k with
  | box => obtain ⟨i, rfl, e⟩ := num2 (l := 0) (m := 7) h (by decide) (by decide); exact e
  | worth => obtain ⟨i, rfl, e⟩ := num2 (l := 0) (m := 65535) h (by decide) (by decide); exact e
  | offset => obtain ⟨i, rfl, e⟩ := num2 (l := -8) (m := 15) h (by decide) (by decide); exact e
  | to => obtain ⟨i, rfl, e⟩ := num2 (l := 0) (m := 4095) h (by decide) (by decide); exact e
  | by_ =>
    obtain ⟨w, i, rfl, q⟩ := byD_is h
    have n := num (i := i) (by omega)
    show (∀ c ∈ (if w = Kind.worth.nm then 35 :: numI i else numI i), _) ∧ (if w = Kind.worth.nm then 35 :: numI i else numI i).length ≤ 10
    split
    · refine ⟨fun c hc => ?_, by rw [List.length_cons]; omega⟩
      rcases List.mem_cons.mp hc with e | e
      · omega
      · exact n.1 c e
    · exact ⟨n.1, by omega⟩
  | rights =>
    cases d with
    | str s =>
      have e : s = rtx (hasR s) := of_decide_eq_true h
      show (∀ c ∈ (if s.cps.toList = [] then [45] else s.cps.toList), _) ∧ (if s.cps.toList = [] then [45] else s.cps.toList).length ≤ 10
      split
      · exact ⟨by simp, by simp⟩
      · refine ⟨fun c hc => ?_, ?_⟩
        · rw [e] at hc
          obtain ⟨k, hk, q⟩ := rtx_codes_mem hc
          have := code_big k hk
          omega
        · have := rtx_len (hasR s)
          rw [e]
          show (rtx (hasR s)).cps.toList.length ≤ 10
          rw [Array.length_toList]; omega
    | _ => cases h
  | doing => obtain ⟨s, rfl, e⟩ := word (k := .doing) h; exact e
  | asked => obtain ⟨s, rfl, e⟩ := word (k := .asked) h; exact e
  | test => obtain ⟨s, rfl, e⟩ := word (k := .test) h; exact e
/-! ### rows as texts -/
def doS : Str := Str.ofString "do"
def rowParts : PyData → List (List Nat)
  | .tuple (.str w :: ps) => (if w = doS then [] else [w.cps.toList]) ++ List.zipWith partL ((look formsK w).getD []) ps
  | _ => []
def rowL (d : PyData) : List Nat := TL.joinL [32] (rowParts d)
def rowOf : List (List Nat) → PyData
  | [] => .none
  | w :: r => match look formsK (SX.S w) with
    | some ks => if r.length = ks.length then (if rowD (.tuple (.str (SX.S w) :: List.zipWith partIn ks r)) = true then .tuple (.str (SX.S w) :: List.zipWith partIn ks r) else .none) else .none
    | none => .none
def wordsIn (ws : List (List Nat)) : List (List Nat) := if (ws.head?.getD []) ∈ (wordsOf .doing).map (fun s => s.cps.toList) then doS.cps.toList :: ws else ws
def rowIn (z : List Nat) : PyData := if (TL.spl [32] 0 [] z).head? = some doS.cps.toList then .none else rowOf (wordsIn (TL.spl [32] 0 [] z))
theorem zip_back : ∀ {ks : List Kind} {ds : List PyData}, partsD ks ds = true → List.zipWith partIn ks (List.zipWith partL ks ds) = ds
  | [], [], _ => rfl
  | k :: ks, d :: ds, h => by
    unfold partsD at h
    rw [Bool.and_eq_true] at h
    rw [List.zipWith_cons_cons, List.zipWith_cons_cons, part_back h.1, zip_back h.2]
theorem zip_codes : ∀ {ks : List Kind} {ds : List PyData}, partsD ks ds = true → ∀ p ∈ List.zipWith partL ks ds, (∀ c ∈ p, 33 ≤ c) ∧ p.length ≤ 10
  | [], [], _, _, h => nomatch h
  | k :: ks, d :: ds, h, p, m => by
    unfold partsD at h
    rw [Bool.and_eq_true] at h
    rw [List.zipWith_cons_cons] at m
    rcases List.mem_cons.mp m with e | e
    · rw [e]; exact part_codes h.1
    · exact zip_codes h.2 p e
theorem forms_codes {w : Str} (h : w ∈ formsK.map (·.1)) : (∀ c ∈ w.cps.toList, 33 ≤ c) ∧ w.cps.toList.length ≤ 6 ∧ (w ≠ doS → w.cps.toList ∉ (wordsOf .doing).map fun s => s.cps.toList) := by
  have all : ∀ w ∈ formsK.map (·.1), (∀ c ∈ w.cps.toList, 33 ≤ c) ∧ w.cps.toList.length ≤ 6 ∧ (w ≠ doS → w.cps.toList ∉ (wordsOf .doing).map fun s => s.cps.toList) := by decide +kernel
  exact all w h
theorem row_form {d : PyData} (h : rowD d = true) : ∃ w ks ps, d = .tuple (.str w :: ps) ∧ look formsK w = some ks ∧ partsD ks ps = true := by
  unfold rowD at h
  split at h
  · rename_i w ps
    cases hl : look formsK w with
    | none => rw [hl] at h; cases h
    | some ks => rw [hl] at h; exact ⟨w, ks, ps, rfl, hl, h⟩
  · cases h
theorem do_forms : look formsK doS = some [.doing, .box, .by_] := by decide +kernel
theorem row_parts {d : PyData} (h : rowD d = true) : rowParts d ≠ [] ∧ (∀ p ∈ rowParts d, (∀ c ∈ p, 33 ≤ c) ∧ p.length ≤ 10) ∧ (rowParts d).length ≤ 5 ∧ (rowParts d).head? ≠ some doS.cps.toList := by
  obtain ⟨w, ks, ps, rfl, hl, hp⟩ := row_form h
  have k4 := forms_len hl
  have pl := partsD_len hp
  have mw : w ∈ formsK.map (·.1) := List.mem_map.mpr ⟨_, look_mem hl, rfl⟩
  have fc := forms_codes mw
  have e : rowParts (.tuple (.str w :: ps)) = (if w = doS then [] else [w.cps.toList]) ++ List.zipWith partL ks ps := by
    show _ ++ List.zipWith partL ((look formsK w).getD []) ps = _
    rw [hl]; rfl
  rw [e]
  have zl : (List.zipWith partL ks ps).length = ks.length := by rw [List.length_zipWith, pl, Nat.min_self]
  by_cases c : w = doS
  · subst c
    rw [do_forms] at hl
    cases hl
    rw [if_pos rfl, List.nil_append]
    obtain ⟨d1, r1, rfl⟩ : ∃ d1 r1, ps = d1 :: r1 := by
      cases ps with
      | nil => cases pl
      | cons a r => exact ⟨a, r, rfl⟩
    refine ⟨by rw [List.zipWith_cons_cons]; exact List.cons_ne_nil _ _, zip_codes hp, by rw [zl]; decide, ?_⟩
    rw [List.zipWith_cons_cons]
    unfold partsD at hp
    rw [Bool.and_eq_true] at hp
    cases d1 with
    | str s =>
      have m : s ∈ wordsOf .doing := of_decide_eq_true hp.1
      have all : ∀ s ∈ wordsOf .doing, s.cps.toList ≠ doS.cps.toList := by decide +kernel
      intro q
      exact all s m (Option.some.inj q)
    | _ => cases hp.1
  · rw [if_neg c]
    refine ⟨List.cons_ne_nil _ _, fun p hp' => ?_, by rw [List.length_append, zl]; show 1 + _ ≤ 5; omega, fun q => c ?_⟩
    · rcases List.mem_append.mp hp' with m | m
      · rw [List.mem_singleton.mp m]; exact ⟨fc.1, by omega⟩
      · exact zip_codes hp p m
    · have := Option.some.inj q
      exact Str.ext' (Array.toList_inj.mp this)
theorem joinL_codes {S : List Nat} : ∀ {ps : List (List Nat)} {c : Nat}, c ∈ TL.joinL S ps → (∃ p ∈ ps, c ∈ p) ∨ c ∈ S
  | [], c, h => nomatch h
  | [p], c, h => .inl ⟨p, List.mem_cons_self .., h⟩
  | p :: q :: r, c, h => by
    rcases List.mem_append.mp (show c ∈ p ++ (S ++ TL.joinL S (q :: r)) from h) with m | m
    · exact .inl ⟨p, List.mem_cons_self .., m⟩
    · rcases List.mem_append.mp m with m | m
      · exact .inr m
      · rcases joinL_codes (ps := q :: r) m with ⟨x, hx, hc⟩ | hc
        · exact .inl ⟨x, List.mem_cons_of_mem _ hx, hc⟩
        · exact .inr hc
theorem joinL_len {S : List Nat} {n : Nat} : ∀ {ps : List (List Nat)}, (∀ p ∈ ps, p.length ≤ n) → (TL.joinL S ps).length ≤ (n + S.length) * ps.length
  | [], _ => by simp [TL.joinL]
  | [p], h => by
    have := h p (List.mem_cons_self ..)
    show p.length ≤ _
    simp; omega
  | p :: q :: r, h => by
    have a := h p (List.mem_cons_self ..)
    have b := joinL_len (S := S) (ps := q :: r) fun x hx => h x (List.mem_cons_of_mem _ hx)
    show (p ++ (S ++ TL.joinL S (q :: r))).length ≤ _
    rw [List.length_append, List.length_append, List.length_cons (a := p), Nat.mul_succ]
    omega
theorem row_codes {d : PyData} (h : rowD d = true) : (∀ c ∈ rowL d, 32 ≤ c) ∧ (rowL d).length ≤ 55 := by
  obtain ⟨_, a, b, _⟩ := row_parts h
  refine ⟨fun c hc => ?_, ?_⟩
  · rcases joinL_codes hc with ⟨p, hp, m⟩ | m
    · have := (a p hp).1 c m; omega
    · have := List.mem_singleton.mp m; omega
  · have := joinL_len (S := [32]) (n := 10) fun p hp => (a p hp).2
    have e : (10 + [32].length) * (rowParts d).length ≤ 11 * 5 := Nat.mul_le_mul_left _ b
    unfold rowL
    omega
theorem row_split {d : PyData} (h : rowD d = true) : TL.spl [32] 0 [] (rowL d) = rowParts d := by
  obtain ⟨ne, a, _, _⟩ := row_parts h
  exact TL.spl_join ne fun p hp m => by have := (a p hp).1 32 m; omega
theorem row_back {d : PyData} (h : rowD d = true) : rowIn (rowL d) = d := by
  have sp := row_split h
  obtain ⟨ne, _, _, nd⟩ := row_parts h
  unfold rowIn
  rw [sp, if_neg nd]
  obtain ⟨w, ks, ps, rfl, hl, hp⟩ := row_form h
  have pl := partsD_len hp
  have zl : (List.zipWith partL ks ps).length = ks.length := by rw [List.length_zipWith, pl, Nat.min_self]
  have e : rowParts (.tuple (.str w :: ps)) = (if w = doS then [] else [w.cps.toList]) ++ List.zipWith partL ks ps := by
    show _ ++ List.zipWith partL ((look formsK w).getD []) ps = _
    rw [hl]; rfl
  have mw : w ∈ formsK.map (·.1) := List.mem_map.mpr ⟨_, look_mem hl, rfl⟩
  have ro : rowOf (w.cps.toList :: List.zipWith partL ks ps) = .tuple (.str w :: ps) := by
    unfold rowOf
    dsimp only
    rw [S_back, hl]
    dsimp only
    rw [if_pos zl, zip_back hp, if_pos h]
  have wi : wordsIn (rowParts (.tuple (.str w :: ps))) = w.cps.toList :: List.zipWith partL ks ps := by
    rw [e]
    by_cases c : w = doS
    · subst c
      rw [if_pos rfl, List.nil_append]
      unfold wordsIn
      rw [do_forms] at hl
      cases hl
      obtain ⟨d1, r1, rfl⟩ : ∃ d1 r1, ps = d1 :: r1 := by
        cases ps with
        | nil => cases pl
        | cons a r => exact ⟨a, r, rfl⟩
      unfold partsD at hp
      rw [Bool.and_eq_true] at hp
      cases d1 with
      | str s =>
        have m : s ∈ wordsOf .doing := of_decide_eq_true hp.1
        rw [List.zipWith_cons_cons]
        have mm : ((partL .doing (.str s) :: List.zipWith partL [Kind.box, Kind.by_] r1).head?.getD []) ∈ (wordsOf .doing).map (fun s => s.cps.toList) := List.mem_map.mpr ⟨s, m, rfl⟩
        rw [if_pos mm]
      | _ => cases hp.1
    · rw [if_neg c]
      unfold wordsIn
      rw [if_neg]
      · rfl
      · exact (forms_codes mw).2.2 c
  rw [wi, ro]
/-! ### many rows -/
def textL (ds : List PyData) : List Nat := TL.joinL [10] (ds.map rowL)
def linesIn (z : List Nat) : List PyData := (TL.spl [10] 0 [] z).map rowIn
theorem text_split {ds : List PyData} (ne : ds ≠ []) (h : ∀ d ∈ ds, rowD d = true) : TL.spl [10] 0 [] (textL ds) = ds.map rowL := by
  refine TL.spl_join (fun e => ne (List.map_eq_nil_iff.mp e)) fun p hp m => ?_
  obtain ⟨d, hd, rfl⟩ := List.mem_map.mp hp
  have := (row_codes (h d hd)).1 10 m
  omega
theorem lines_back {ds : List PyData} (ne : ds ≠ []) (h : ∀ d ∈ ds, rowD d = true) : linesIn (textL ds) = ds := by
  unfold linesIn
  rw [text_split ne h, List.map_map]
  refine (List.map_congr_left fun d hd => ?_).trans (List.map_id ds)
  exact row_back (h d hd)
theorem text_len {ds : List PyData} (h : ∀ d ∈ ds, rowD d = true) : (textL ds).length ≤ 56 * ds.length := by
  have := joinL_len (S := [10]) (n := 55) (ps := ds.map rowL) fun p hp => by
    obtain ⟨d, hd, rfl⟩ := List.mem_map.mp hp
    exact (row_codes (h d hd)).2
  rw [List.length_map] at this
  exact this
/-- which row of text is the first that is none -/
def isNone : PyData → Bool
  | .none => true
  | _ => false
def badLine (ds : List PyData) : Option Nat := ds.findIdx? isNone
/-- what is due of a thing read as rows: the rows, or the number to refuse it with -/
def readD : PyData → Option Nat ⊕ List PyData
  | .str s => match badLine (linesIn s.cps.toList) with
    | some j => .inl (some j)
    | none => if (linesIn s.cps.toList).length > 64 then .inl none else .inr (linesIn s.cps.toList)
  | _ => .inl none
theorem rowIn_or (z : List Nat) : rowIn z = .none ∨ rowD (rowIn z) = true := by
  unfold rowIn
  split
  · exact .inl rfl
  · unfold rowOf
    split
    · exact .inl rfl
    · split
      · split
        · split
          · rename_i c; exact .inr c
          · exact .inl rfl
        · exact .inl rfl
      · exact .inl rfl
theorem row_notNone {d : PyData} (h : rowD d = true) : isNone d = false := by
  cases d <;> first | rfl | cases h
theorem read_back {ds : List PyData} (ne : ds ≠ []) (h : ∀ d ∈ ds, rowD d = true) (l : ds.length ≤ 64) : readD (.str (SX.S (textL ds))) = .inr ds := by
  show (match badLine (linesIn (textL ds)) with | some j => _ | none => _) = _
  have b : badLine ds = none := by
    unfold badLine
    rw [List.findIdx?_eq_none_iff]
    intro d hd
    exact row_notNone (h d hd)
  rw [lines_back ne h, b]
  show (if ds.length > 64 then _ else _) = _
  rw [if_neg (by omega)]

/-! ### rows are small -/
theorem part_nice {k : Kind} {d : PyData} (h : partD k d = true) : Nice 30 1 d := by
  have num : ∀ {d : PyData} {l m : Int}, wholeD d l m = true → -100000 ≤ l → m ≤ 100000 → Nice 30 1 d := fun {d l m} h a b => by
    obtain ⟨i, rfl, c, e⟩ := wholeD_int h
    exact (nice_int (m := 17) (by omega) (by decide)).mono (by decide) (Nat.le_refl _)
  have word : ∀ {k : Kind} {d : PyData}, oneOf (wordsOf k) d = true → Nice 30 1 d := fun {k d} h => by
    cases d with
    | str s => exact words_nice k s (of_decide_eq_true h)
    | _ => cases h
  cases k with
  | box => exact num (l := 0) (m := 7) h (by decide) (by decide)
  | worth => exact num (l := 0) (m := 65535) h (by decide) (by decide)
  | offset => exact num (l := -8) (m := 15) h (by decide) (by decide)
  | to => exact num (l := 0) (m := 4095) h (by decide) (by decide)
  | by_ =>
    obtain ⟨w, i, rfl, q⟩ := byD_is h
    have hi : i.natAbs < 2 ^ 17 := by omega
    have hw : Nice 5 0 (.str w) := by rcases q with ⟨rfl, _⟩ | ⟨rfl, _⟩ <;> exact nice_lit (by decide +kernel)
    exact (NiceAll.cons hw (NiceAll.cons (nice_int (m := 17) hi (by decide)) .nil (m := 0))).tuple.mono (by decide) (by decide)
  | rights =>
    cases d with
    | str s =>
      have e : s = rtx (hasR s) := of_decide_eq_true h
      rw [e]
      exact (nice_str (k := 1) (rtx_str (hasR s)) (rtx_len (hasR s))).mono (by decide) (Nat.le_refl _)
    | _ => cases h
  | doing => exact word (k := .doing) h
  | asked => exact word (k := .asked) h
  | test => exact word (k := .test) h
theorem parts_nice : ∀ {ks : List Kind} {ds : List PyData}, partsD ks ds = true → ∀ d ∈ ds, Nice 30 1 d
  | [], [], _, _, h => nomatch h
  | k :: ks, d :: ds, h, x, m => by
    unfold partsD at h
    rw [Bool.and_eq_true] at h
    rcases List.mem_cons.mp m with e | e
    · rw [e]; exact part_nice h.1
    · exact parts_nice h.2 x e
theorem row_nice {d : PyData} (h : rowD d = true) : Nice 140 2 d := by
  obtain ⟨w, ks, ps, rfl, hl, hp⟩ := row_form h
  have k4 := forms_len hl
  have pl := partsD_len hp
  have mw : w ∈ formsK.map (·.1) := List.mem_map.mpr ⟨_, look_mem hl, rfl⟩
  refine (NiceAll.cons (word_nice mw) (NiceAll.of (parts_nice hp))).tuple.mono ?_ (Nat.le_refl _)
  have : (30 + 1) * ps.length ≤ 31 * 4 := Nat.mul_le_mul_left _ (by omega)
  omega
theorem line_lay (z : List Nat) : Nice 140 2 (rowIn z) := by
  rcases rowIn_or z with e | e
  · rw [e]; exact nice_none
  · exact row_nice e
theorem lines_shaped (z : List Nat) : SeqAt.shaped (.list (linesIn z)) = true := by
  have a : ∀ d ∈ linesIn z, Nice 140 2 d := fun d hd => by
    obtain ⟨y, _, rfl⟩ := List.mem_map.mp hd
    exact line_lay y
  exact (NiceAll.of a).list.shaped (by decide)
theorem eqv_non (d : PyData) : PyData.eqv d .none = isNone d := by
  cases d <;> first | rfl | (simp [PyData.eqv, isNone])
theorem none_in (ds : List PyData) : (ds.any fun z => PyData.eqv z .none) = (badLine ds).isSome := by
  unfold badLine
  rw [Bool.eq_iff_iff, List.any_eq_true, Option.isSome_iff_ne_none, ne_eq, List.findIdx?_eq_none_iff]
  constructor
  · rintro ⟨x, hx, e⟩ h
    have := h x hx
    rw [eqv_non] at e
    rw [e] at this; cases this
  · intro h
    refine Classical.byContradiction fun c => h fun x hx => ?_
    cases e : isNone x with
    | false => rfl
    | true => exact absurd ⟨x, hx, by rw [eqv_non]; exact e⟩ c
theorem call_strIS {X : Cx} : CallR X (.type "str") (fun xs H Q => (∃ i, xs = [.int i] ∧ i.natAbs.log2 < 1920 ∧ Q (.str (Str.ofString (toString i))) H) ∨ ∃ a, xs = [.str a] ∧ Q (.str a) H) := by
  intro pins s σ H xs us Q I r h
  rcases h with h | h
  · exact call_str_int pins s σ H xs us Q I r h
  · exact SkE.call_str_str pins s σ H xs us Q I r h
theorem log_small {i : Int} (h : i.natAbs < 2 ^ 200) : i.natAbs.log2 < 1920 := by
  by_cases z : i.natAbs = 0
  · rw [z]; decide
  · have := (Nat.log2_lt z).mpr h
    omega
theorem spl_len (c : Nat) : ∀ (z acc : List Nat), (TL.spl [c] 0 acc z).length ≤ z.length + 1
  | [], acc => by rw [TL.spl_nil]; simp
  | a :: r, acc => by
    by_cases h : a = c
    · subst h
      rw [TL.spl_hit (by simp [TL.pre])]
      have := spl_len a r []
      show (acc :: TL.spl [a] 0 [] r).length ≤ _
      rw [List.length_cons, List.length_cons]
      omega
    · rw [TL.spl_miss (by simp [TL.pre, h])]
      have := spl_len c r (acc ++ [a])
      rw [List.length_cons]; omega
theorem spl_mem (c : Nat) : ∀ (z acc : List Nat), ∀ p ∈ TL.spl [c] 0 acc z, p.length ≤ acc.length + z.length
  | [], acc, p, h => by
    rw [TL.spl_nil] at h
    rw [List.mem_singleton.mp h]; omega
  | a :: r, acc, p, h => by
    by_cases e : a = c
    · subst e
      rw [TL.spl_hit (by simp [TL.pre])] at h
      replace h : p ∈ acc :: TL.spl [a] 0 [] r := h
      rcases List.mem_cons.mp h with q | q
      · rw [q]; omega
      · have := spl_mem a r [] p q
        simp only [List.length_nil, List.length_cons] at this ⊢
        omega
    · rw [TL.spl_miss (by simp [TL.pre, e])] at h
      have := spl_mem c r (acc ++ [a]) p h
      simp only [List.length_append, List.length_cons, List.length_nil] at this ⊢
      omega
theorem spl_ne (c : Nat) : ∀ (z acc : List Nat), TL.spl [c] 0 acc z ≠ []
  | [], acc => by rw [TL.spl_nil]; exact List.cons_ne_nil _ _
  | a :: r, acc => by
    by_cases e : a = c
    · subst e
      rw [TL.spl_hit (by simp [TL.pre])]; exact List.cons_ne_nil _ _
    · rw [TL.spl_miss (by simp [TL.pre, e])]; exact spl_ne c r _
theorem split_one (c : Nat) (hc : c < 256) (z : List Nat) : Txt.split (SX.S z) (SX.S [c]) = (TL.spl [c] 0 [] z).map SX.S := SX.split_S (List.cons_ne_nil _ _) (by simp [hc])

theorem whole_false {z : List Nat} (h : wholeOk z = false) : wholeIn z = .none := by unfold wholeIn; rw [h]; exact if_neg Bool.false_ne_true
theorem whole_asc {z : List Nat} (h : Txt.isascii (SX.S (figs z)) = false) : wholeOk z = false := by
  cases e : wholeOk z with
  | false => rfl
  | true =>
    unfold wholeOk at e
    simp only [Bool.and_eq_true] at e
    rw [asc_S, asc_of e.1.1.2] at h
    cases h
theorem whole_dig {z : List Nat} (h : Txt.isascii (SX.S (figs z)) = true) : Txt.isdigit (SX.S (figs z)) = (!(figs z).isEmpty && (figs z).all isF) := dig_S (by rw [← asc_S]; exact h)
theorem whole_dig0 {z : List Nat} (h : Txt.isascii (SX.S (figs z)) = true) (k : Txt.isdigit (SX.S (figs z)) = false) : wholeOk z = false := by
  rw [whole_dig h] at k
  unfold wholeOk
  rw [k]; rfl
theorem whole_long {z : List Nat} (h : (figs z).length > 30) : wholeOk z = false := by
  cases e : wholeOk z with
  | false => rfl
  | true =>
    unfold wholeOk at e
    simp only [Bool.and_eq_true, decide_eq_true_iff] at e
    omega
theorem whole_dig1 {z : List Nat} (h : Txt.isascii (SX.S (figs z)) = true) (k : Txt.isdigit (SX.S (figs z)) = true) (l : ¬ (figs z).length > 30) : (∃ c r, figs z = c :: r) ∧ (wholeOk z = false ↔ (figs z).head? = some 48 ∧ z ≠ [48]) := by
  rw [whole_dig h] at k
  refine ⟨?_, ?_⟩
  · cases e : figs z with
    | nil => rw [e] at k; cases k
    | cons c r => exact ⟨c, r, rfl⟩
  · unfold wholeOk
    rw [k]
    have l2 : decide ((figs z).length ≤ 30) = true := decide_eq_true (by omega)
    rw [l2, Bool.true_and, Bool.true_and, Bool.or_eq_false_iff, decide_eq_false_iff_not, decide_eq_false_iff_not, Decidable.not_not]
theorem S_ne {a b : List Nat} : (SX.S a ≠ SX.S b) ↔ a ≠ b := ⟨fun h e => h (by rw [e]), fun h e => h (SX.S_inj e)⟩
theorem figs_len (z : List Nat) : (figs z).length ≤ z.length ∧ z.length ≤ (figs z).length + 1 := by
  unfold figs
  split
  · rw [List.length_tail]; omega
  · omega
theorem whole_len {z : List Nat} (h : wholeOk z = true) : z.length ≤ 31 := by
  unfold wholeOk at h
  simp only [Bool.and_eq_true, decide_eq_true_iff] at h
  have := (figs_len z).2
  omega
theorem zero_S : Str.ofString "0" = SX.S [48] := by decide +kernel
theorem one_inj {a b : Nat} (h : one a = one b) : a = b := by
  have : (#[a] : Array Nat) = #[b] := congrArg Str.cps h
  simpa using this
theorem starts_S (z : List Nat) (c : Nat) : Txt.startswith (SX.S z) (SX.S [c]) = decide (z.head? = some c) := by
  unfold Txt.startswith
  rw [PySem.StrLaws.subAt_eq]
  have l1 : (SX.S [c]).length = 1 := rfl
  rw [l1, SX.S_len]
  cases z with
  | nil => simp
  | cons a r =>
    simp
    rw [Bool.eq_iff_iff, beq_iff_eq, decide_eq_true_iff]
theorem cut1_S (z : List Nat) : cutS (SX.S z) (some 1) none = SX.S z.tail := by
  rw [C8.cutS_slice, SX.slice_from (by decide)]
  congr 1
  cases z <;> rfl
theorem minus_S : Str.ofString "-" = SX.S [45] := by decide +kernel
theorem hash_S : Str.ofString "#" = SX.S [35] := by decide +kernel
theorem nil_S : Str.ofString "" = SX.S [] := by decide +kernel
theorem nl_S : Str.ofString "\n" = SX.S [10] := by decide +kernel
theorem blank_S : Str.ofString " " = SX.S [32] := by decide +kernel
theorem Dx.two {H : Hp} {p : Addr} {a b : V} {c d : PyData} (e : H p = some (.tup [a, b])) (h : Dx H a c) (k : Dx H b d) : Dx H (.ref p) (.tuple [c, d]) := .tup e (.cons h (.cons k .nil))

theorem whole_or (z : List Nat) : wholeIn z = .none ∨ ∃ i, wholeIn z = .int i := by
  unfold wholeIn
  split
  · exact .inr ⟨_, rfl⟩
  · exact .inl rfl
theorem whole_any {H H' : Hp} {v : V} {z : List Nat} (h : Dx H v (wholeIn z)) : Dx H' v (wholeIn z) := by
  rcases whole_or z with e | ⟨i, e⟩
  · rw [e] at h ⊢; cases h; exact .non
  · rw [e] at h ⊢; cases h; exact .int i
theorem rights_any {H H' : Hp} {v : V} {z : List Nat} (h : Dx H v (rightsIn z)) : Dx H' v (rightsIn z) := by
  unfold rightsIn at h ⊢
  split at h
  · cases h; rw [if_pos (by assumption)]; exact .non
  · split at h
    · cases h; rw [if_neg (by assumption), if_pos (by assumption)]; exact .str _
    · cases h; rw [if_neg (by assumption), if_neg (by assumption)]; exact .str _
theorem zip_take {α β γ : Type} (f : α → β → γ) {l : List α} {m : List β} {i : Nat} {a : α} {b : β} (ha : l[i]? = some a) (hb : m[i]? = some b) : List.zipWith f (l.take (i + 1)) (m.take (i + 1)) = List.zipWith f (l.take i) (m.take i) ++ [f a b] := by
  have l1 := (List.getElem?_eq_some_iff.mp ha).1
  have l2 := (List.getElem?_eq_some_iff.mp hb).1
  rw [List.take_add_one, List.take_add_one, ha, hb]
  rw [List.zipWith_append (by rw [List.length_take, List.length_take]; omega)]
  rfl
theorem eqv_empty {d : PyData} : PyData.eqv d (.str (Str.ofString "")) = true ↔ d = .str (Str.ofString "") := by
  cases d <;> simp [PyData.eqv]
theorem part_kind {k : Kind} {d : PyData} (h : partD k d = true) (n : k ≠ .by_) : (∃ i : Int, d = .int i ∧ i.natAbs < 2 ^ 17 ∧ partL k d = numI i) ∨ (∃ s, d = .str s ∧ s ≠ Str.ofString "" ∧ partL k d = s.cps.toList) ∨ (d = .str (Str.ofString "") ∧ partL k d = [45]) := by
  have num : ∀ {d : PyData} {l m : Int}, wholeD d l m = true → -100000 ≤ l → m ≤ 100000 → ∃ i : Int, d = .int i ∧ i.natAbs < 2 ^ 17 := fun {d l m} h a b => by
    obtain ⟨i, rfl, c, e⟩ := wholeD_int h
    exact ⟨i, rfl, by omega⟩
  have word : ∀ {k : Kind} {d : PyData}, oneOf (wordsOf k) d = true → ∃ s, d = .str s ∧ s ≠ Str.ofString "" := fun {k d} h => by
    cases d with
    | str s =>
      refine ⟨s, rfl, fun e => ?_⟩
      have m : s ∈ wordsOf k := of_decide_eq_true h
      have all : ∀ s ∈ wordsOf .doing ++ wordsOf .asked ++ wordsOf .test, s ≠ Str.ofString "" := by decide +kernel
      have : s ∈ wordsOf .doing ++ wordsOf .asked ++ wordsOf .test := by
        cases k <;> first | (simp only [List.mem_append]; exact .inl (.inl m)) | (simp only [List.mem_append]; exact .inl (.inr m)) | (simp only [List.mem_append]; exact .inr m) | cases m
      exact all s this e
    | _ => cases h
  cases k with
  | box => obtain ⟨i, rfl, e⟩ := num (l := 0) (m := 7) h (by decide) (by decide); exact .inl ⟨i, rfl, e, rfl⟩
  | worth => obtain ⟨i, rfl, e⟩ := num (l := 0) (m := 65535) h (by decide) (by decide); exact .inl ⟨i, rfl, e, rfl⟩
  | offset => obtain ⟨i, rfl, e⟩ := num (l := -8) (m := 15) h (by decide) (by decide); exact .inl ⟨i, rfl, e, rfl⟩
  | to => obtain ⟨i, rfl, e⟩ := num (l := 0) (m := 4095) h (by decide) (by decide); exact .inl ⟨i, rfl, e, rfl⟩
  | by_ => exact absurd rfl n
  | rights =>
    cases d with
    | str s =>
      by_cases c : s.cps.toList = []
      · have e : s = Str.ofString "" := by rw [← S_back s, c, nil_S]
        exact .inr (.inr ⟨by rw [e], if_pos c⟩)
      · exact .inr (.inl ⟨s, rfl, fun e => c (by rw [e, nil_S]), if_neg c⟩)
    | _ => cases h
  | doing => obtain ⟨s, rfl, e⟩ := word (k := .doing) h; exact .inr (.inl ⟨s, rfl, e, rfl⟩)
  | asked => obtain ⟨s, rfl, e⟩ := word (k := .asked) h; exact .inr (.inl ⟨s, rfl, e, rfl⟩)
  | test => obtain ⟨s, rfl, e⟩ := word (k := .test) h; exact .inr (.inl ⟨s, rfl, e, rfl⟩)
theorem join_txt (a : List Nat) (ys : List (List Nat)) : Txt.join (SX.S a) (ys.map SX.S) = SX.S (TL.joinL a ys) := SX.join_S a ys
theorem parts_at : ∀ {ks : List Kind} {ds : List PyData}, partsD ks ds = true → ∀ {i : Nat} {k : Kind} {d : PyData}, ks[i]? = some k → ds[i]? = some d → partD k d = true
  | [], [], _, _, _, _, h, _ => nomatch h
  | a :: ks, b :: ds, h, i, k, d, h1, h2 => by
    unfold partsD at h
    rw [Bool.and_eq_true] at h
    cases i with
    | zero => cases h1; cases h2; exact h.1
    | succ i => exact parts_at h.2 (i := i) h1 h2
theorem sum_le {n : Nat} : ∀ {l : List (List Nat)}, (∀ x ∈ l, x.length ≤ n) → (l.map (·.length)).sum ≤ n * l.length
  | [], _ => by simp
  | x :: r, h => by
    have a := h x (List.mem_cons_self ..)
    have b := sum_le (l := r) fun y hy => h y (List.mem_cons_of_mem _ hy)
    rw [List.map_cons, List.sum_cons, List.length_cons, Nat.mul_succ]
    omega
theorem join_ok {n : Nat} {a : List Nat} {l : List (List Nat)} (h : ∀ x ∈ l, x.length ≤ n) (k : n * l.length + l.length * a.length ≤ 16777216) : ((l.map SX.S).map (·.length)).sum + (l.map SX.S).length * (SX.S a).length ≤ 16777216 := by
  rw [SX.lens, SX.S_len, List.length_map]
  have := sum_le h
  omega
theorem map_VS (l : List (List Nat)) : l.map (V.str ∘ SX.S) = (l.map SX.S).map V.str := by rw [List.map_map]
/-! ### rows compared -/
mutual
def noB : PyData → Bool
  | .bool _ => false
  | .dict _ => false
  | .list ds => noBAll ds
  | .tuple ds => noBAll ds
  | _ => true
def noBAll : List PyData → Bool
  | [] => true
  | d :: ds => noB d && noBAll ds
end
mutual
theorem eqv_noB : ∀ {a b : PyData}, noB a = true → noB b = true → (PyData.eqv a b = true ↔ a = b)
  | .bool _, _, h, _ => by simp [noB] at h
  | .dict _, _, h, _ => by simp [noB] at h
  | .none, .bool _, _, h => by simp [noB] at h
  | .none, .dict _, _, h => by simp [noB] at h
  | .none, .none, _, _ => by simp [PyData.eqv]
  | .none, .int _, _, _ => by simp [PyData.eqv]
  | .none, .str _, _, _ => by simp [PyData.eqv]
  | .none, .list _, _, _ => by simp [PyData.eqv]
  | .none, .tuple _, _, _ => by simp [PyData.eqv]
  | .int _, .bool _, _, h => by simp [noB] at h
  | .int _, .dict _, _, h => by simp [noB] at h
  | .int _, .none, _, _ => by simp [PyData.eqv]
  | .int _, .int _, _, _ => by simp [PyData.eqv]
  | .int _, .str _, _, _ => by simp [PyData.eqv]
  | .int _, .list _, _, _ => by simp [PyData.eqv]
  | .int _, .tuple _, _, _ => by simp [PyData.eqv]
  | .str _, .bool _, _, h => by simp [noB] at h
  | .str _, .dict _, _, h => by simp [noB] at h
  | .str _, .none, _, _ => by simp [PyData.eqv]
  | .str _, .int _, _, _ => by simp [PyData.eqv]
  | .str _, .str _, _, _ => by simp [PyData.eqv]
  | .str _, .list _, _, _ => by simp [PyData.eqv]
  | .str _, .tuple _, _, _ => by simp [PyData.eqv]
  | .list _, .bool _, _, h => by simp [noB] at h
  | .list _, .dict _, _, h => by simp [noB] at h
  | .list _, .none, _, _ => by simp [PyData.eqv]
  | .list _, .int _, _, _ => by simp [PyData.eqv]
  | .list _, .str _, _, _ => by simp [PyData.eqv]
  | .list xs, .list ys, h, k => by
    have := eqvAll_noB (a := xs) (b := ys) (by simpa [noB] using h) (by simpa [noB] using k)
    simp only [PyData.eqv, PyData.list.injEq]; exact this
  | .list _, .tuple _, _, _ => by simp [PyData.eqv]
  | .tuple _, .bool _, _, h => by simp [noB] at h
  | .tuple _, .dict _, _, h => by simp [noB] at h
  | .tuple _, .none, _, _ => by simp [PyData.eqv]
  | .tuple _, .int _, _, _ => by simp [PyData.eqv]
  | .tuple _, .str _, _, _ => by simp [PyData.eqv]
  | .tuple _, .list _, _, _ => by simp [PyData.eqv]
  | .tuple xs, .tuple ys, h, k => by
    have := eqvAll_noB (a := xs) (b := ys) (by simpa [noB] using h) (by simpa [noB] using k)
    simp only [PyData.eqv, PyData.tuple.injEq]; exact this
theorem eqvAll_noB : ∀ {a b : List PyData}, noBAll a = true → noBAll b = true → (PyData.eqvAll a b = true ↔ a = b)
  | [], [], _, _ => by simp [PyData.eqvAll]
  | [], _ :: _, _, _ => by simp [PyData.eqvAll]
  | _ :: _, [], _, _ => by simp [PyData.eqvAll]
  | x :: xs, y :: ys, h, k => by
    simp only [noBAll, Bool.and_eq_true] at h k
    simp only [PyData.eqvAll, Bool.and_eq_true, List.cons.injEq, eqv_noB h.1 k.1, eqvAll_noB h.2 k.2]
end
theorem noBAll_of : ∀ {ds : List PyData}, (∀ d ∈ ds, noB d = true) → noBAll ds = true
  | [], _ => by simp [noBAll]
  | d :: ds, h => by
    simp only [noBAll, Bool.and_eq_true]
    exact ⟨h d (List.mem_cons_self ..), noBAll_of fun x hx => h x (List.mem_cons_of_mem _ hx)⟩
theorem part_noB {k : Kind} {d : PyData} (h : partD k d = true) : noB d = true := by
  by_cases n : k = .by_
  · subst n
    obtain ⟨w, i, rfl, _⟩ := byD_is h
    simp [noB, noBAll]
  · rcases part_kind h n with ⟨i, rfl, _⟩ | ⟨s, rfl, _⟩ | ⟨rfl, _⟩ <;> simp [noB]
theorem parts_noB : ∀ {ks : List Kind} {ds : List PyData}, partsD ks ds = true → ∀ d ∈ ds, noB d = true
  | [], [], _, _, h => nomatch h
  | k :: ks, d :: ds, h, x, m => by
    unfold partsD at h
    rw [Bool.and_eq_true] at h
    rcases List.mem_cons.mp m with e | e
    · rw [e]; exact part_noB h.1
    · exact parts_noB h.2 x e
theorem row_noB {d : PyData} (h : rowD d = true) : noB d = true := by
  obtain ⟨w, ks, ps, rfl, hl, hp⟩ := row_form h
  show noBAll (.str w :: ps) = true
  simp only [noBAll, Bool.and_eq_true]
  exact ⟨by simp [noB], noBAll_of (parts_noB hp)⟩
theorem rows_noB {ds : List PyData} (h : ∀ d ∈ ds, rowD d = true) : noB (.list ds) = true := by
  show noBAll ds = true
  exact noBAll_of fun d hd => row_noB (h d hd)
theorem eqv_rows {a b : List PyData} (ha : ∀ d ∈ a, rowD d = true) (hb : ∀ d ∈ b, rowD d = true) : PyData.eqv (.list a) (.list b) = true ↔ a = b := by
  rw [eqv_noB (rows_noB ha) (rows_noB hb)]
  exact ⟨fun h => PyData.list.inj h, fun h => by rw [h]⟩
theorem rows_nice {a : List PyData} (ha : ∀ d ∈ a, rowD d = true) : Nice (141 * a.length) 3 (.list a) := (NiceAll.of fun d hd => row_nice (ha d hd)).list
theorem rows_shaped {a : List PyData} (ha : ∀ d ∈ a, rowD d = true) : SeqAt.shaped (.list a) = true := (rows_nice ha).shaped (by decide)
theorem look_good {ds : List PyData} (h : ∀ d ∈ ds, rowD d = true) (l : 1 ≤ ds.length) (m : ds.length ≤ 64) : lookD (.list ds) = none := by
  show (if _ then _ else _) = _
  rw [if_pos ⟨l, m⟩, badAt_none (Nat.le_refl _) fun i d _ hd => h d (List.mem_of_getElem? hd)]
  rfl
theorem text_inj {a b : List PyData} (ha : ∀ d ∈ a, rowD d = true) (hb : ∀ d ∈ b, rowD d = true) (na : a ≠ []) (nb : b ≠ []) (e : textL a = textL b) : a = b := by
  rw [← lines_back na ha, ← lines_back nb hb, e]
theorem joinL_app {S : List Nat} : ∀ {a b : List (List Nat)}, a ≠ [] → b ≠ [] → TL.joinL S [TL.joinL S a, TL.joinL S b] = TL.joinL S (a ++ b)
  | [], _, h, _ => absurd rfl h
  | _, [], _, h => absurd rfl h
  | [x], y :: ys, _, _ => rfl
  | x :: x2 :: xs, y :: ys, _, _ => by
    have := joinL_app (S := S) (a := x2 :: xs) (b := y :: ys) (List.cons_ne_nil _ _) (List.cons_ne_nil _ _)
    show (x ++ (S ++ TL.joinL S (x2 :: xs))) ++ (S ++ TL.joinL S (y :: ys)) = x ++ (S ++ TL.joinL S (x2 :: xs ++ y :: ys))
    rw [← this, List.append_assoc, List.append_assoc]
    rfl
theorem text_app {a b : List PyData} (na : a ≠ []) (nb : b ≠ []) : TL.joinL [10] [textL a, textL b] = textL (a ++ b) := by
  unfold textL
  rw [joinL_app (fun e => na (List.map_eq_nil_iff.mp e)) (fun e => nb (List.map_eq_nil_iff.mp e)), List.map_append]
/-- a list of rows at D, which stands apart from the pool -/
structure RowsAt (p : Addr) (H : Hp) (D : Addr) (ds : List PyData) : Prop where
  ex : ∃ vs, H D = some (.lst vs) ∧ DxAll (hide p H) vs ds
  ne : D ≠ p
theorem RowsAt.but {p D : Addr} {H H' : Hp} {ds : List PyData} (r : RowsAt p H D ds) (b : But p H H') : RowsAt p H' D ds := by
  obtain ⟨vs, h, d⟩ := r.ex
  exact ⟨⟨vs, b _ _ r.ne h, d.same (hide_but b)⟩, r.ne⟩
theorem RowsAt.dx {p D : Addr} {H : Hp} {ds : List PyData} (r : RowsAt p H D ds) : Dx H (.ref D) (.list ds) := by
  obtain ⟨vs, h, d⟩ := r.ex
  exact .lst h (d.same (hide_same p H))
theorem RowsAt.same {p D : Addr} {H H' : Hp} {ds : List PyData} (r : RowsAt p H D ds) (s : Same H H') : RowsAt p H' D ds := r.but (But.of s)
theorem rows_app {a b : List PyData} (ha : ∀ d ∈ a, rowD d = true) (hb : ∀ d ∈ b, rowD d = true) : ∀ d ∈ a ++ b, rowD d = true := fun d hd => by
  rcases List.mem_append.mp hd with h | h
  · exact ha d h
  · exact hb d h
theorem cut_head' {xs : List V} {i : Nat} (h : i ≤ xs.length) : cutV xs none (some (i : Int)) = xs.take i := by
  unfold cutV
  rw [HT.sIx_none, HT.sIx_nat, List.drop_zero, Nat.sub_zero, Nat.min_eq_left h]
theorem cut_tail' {xs : List V} {i : Nat} (h : i ≤ xs.length) : cutV xs (some (i : Int)) none = xs.drop i := by
  unfold cutV
  rw [HT.sIx_none, HT.sIx_nat, Nat.min_eq_left h, List.take_of_length_le (by rw [List.length_drop]; exact Nat.le_refl _)]
theorem news_hideG {H H' : Hp} {a : Addr} {o : HO} (h : H a = some o) : Same (news H H') (hide a H') := fun b x e => by
  obtain ⟨n, e⟩ := news_of e
  exact hide_at e (fun z => by rw [z, h] at n; cases n)
theorem sameU' {H G : Hp} {p : Addr} {o : HO} (s : Same H G) (n : H p = none) : Same H (upd G p o) := fun b x e => by
  rw [upd_ne (ne_of_none e n)]; exact s b x e
theorem sameB' {H G G' : Hp} {p : Addr} (s : Same H G) (b : But p G G') (n : H p = none) : Same H G' := fun c x e => b c x (ne_of_none e n) (s c x e)
theorem free_back {H G : Hp} {p : Addr} (s : Same H G) (n : G p = none) : H p = none := by
  cases e : H p with
  | none => rfl
  | some o => have := s _ _ e; rw [n] at this; cases this
/-! ### a text, so many times -/
theorem fold_rep (a : List Nat) : ∀ (n : Nat) (acc : Array Nat), ((List.replicate n a.toArray).foldl (· ++ ·) acc) = (acc.toList ++ (List.replicate n a).flatten).toArray
  | 0, acc => by simp
  | n + 1, acc => by
    rw [List.replicate_succ, List.foldl_cons, fold_rep a n, List.replicate_succ, List.flatten_cons]
    congr 1
    simp
theorem op_mulS {X : Cx} : OpR X (binaryOp .Mult) (fun x y H Q => ∃ (z : List Nat) (k : Int), x = .str (SX.S z) ∧ y = .int k ∧ 0 ≤ k ∧ k ≤ 1000 ∧ z.length ≤ 1000 ∧ Q (.str (SX.S (List.replicate k.toNat z).flatten)) H) := by
  intro pins s σ H x y v u Q I rx ry h
  obtain ⟨z, k, rfl, rfl, h0, h1, hz, q⟩ := h
  obtain ⟨t, rfl⟩ := rx
  obtain ⟨t', rfl⟩ := ry
  have hl : (SX.S z).length = z.length := SX.S_len z
  have len : (SX.S z).length * k.toNat ≤ 1000 * 1000 := Nat.mul_le_mul (by omega) (by omega)
  have eq : (⟨(List.replicate k.toNat (SX.S z).cps).foldl (· ++ ·) #[]⟩ : Str) = SX.S (List.replicate k.toNat z).flatten := by
    have := fold_rep z k.toNat #[]
    show (⟨(List.replicate k.toNat z.toArray).foldl (· ++ ·) #[]⟩ : Str) = _
    rw [this]
    rfl
  refine P.mul_str ?_ (fun a b => ?_) (fun a b => ?_) ?_
  · rw [decide_eq_false (by omega), decide_eq_false (by omega)]; rfl
  · have k2 : 1 ≤ k := by omega
    have : (2 ^ 63 - 1 : Int) / k ≥ (2 ^ 63 - 1) / 1000 := by
      refine Int.le_ediv_of_mul_le (by omega) ?_
      have : (2 ^ 63 - 1 : Int) / 1000 * k ≤ (2 ^ 63 - 1) / 1000 * 1000 := Int.mul_le_mul_of_nonneg_left h1 (by decide)
      have c : (2 ^ 63 - 1 : Int) / 1000 * 1000 ≤ 2 ^ 63 - 1 := by decide
      omega
    have c : (2 ^ 63 - 1 : Int) / 1000 ≥ 1000 := by decide
    omega
  · show decide (_ > sizeLine) = false
    refine decide_eq_false ?_
    have : (1000 * 1000 : Nat) ≤ sizeLine := by rw [sizeLine_eq]; decide
    omega
  · by_cases a : k < 1
    · rw [if_pos a]
      have k0 : k = 0 := by omega
      subst k0
      refine ⟨by decide, ⟨.str (SX.S []), H, I.tok _, ⟨_, rfl⟩, ?_⟩⟩
      exact q
    · rw [if_neg a]
      by_cases b : (k == 1 || (SX.S z).length == 0) = true
      · rw [if_pos b]
        have e : (List.replicate k.toNat z).flatten = z := by
          rw [Bool.or_eq_true, beq_iff_eq, beq_iff_eq, hl] at b
          rcases b with b | b
          · rw [b]; show z ++ [] = z; rw [List.append_nil]
          · have : z = [] := List.eq_nil_of_length_eq_zero b
            subst this
            generalize k.toNat = n
            induction n with
            | zero => rfl
            | succ n ih => rw [List.replicate_succ, List.flatten_cons, ih]; rfl
        rw [e] at q
        exact ⟨.str (SX.S z), H, I, ⟨_, rfl⟩, q⟩
      · rw [if_neg b, eq]
        refine ⟨?_, ⟨.str _, H, I.tok _, ⟨_, rfl⟩, q⟩⟩
        rw [SX.S_len, List.length_flatten, List.map_replicate, List.sum_replicate_nat]
        have : (1000 * 1000 : Nat) ≤ sizeLine := by rw [sizeLine_eq]; decide
        rw [hl] at len
        rw [Nat.mul_comm]
        omega

theorem sgS_ne {k : Kind} {c : Nat} (h : k.sg ≠ c) : V.str (one k.sg) ≠ V.str (one c) := sg_ne h
theorem sg_by {k : Kind} (h : k ≠ .by_) : k.sg ≠ 121 := by cases k <;> first | exact absurd rfl h | decide
theorem sg_ri {k : Kind} (h : k ≠ .rights) : k.sg ≠ 114 := by cases k <;> first | exact absurd rfl h | decide
theorem signs_sgsX (ks : List Kind) : signs (sgs ks) = ks.map fun k => V.str (one k.sg) := by
  unfold signs sgs one
  rw [List.map_map]; rfl
theorem rep0 (l : List (List Nat)) : (List.replicate (0 : Int).toNat l).flatten = [] := rfl
/-! ### the laws' own reading of rows -/
def TxtOk (n : Nat) (z : List Nat) : Prop := z.length ≤ n ∧ ∀ c ∈ z, c < 128
def lawNum (z : List Nat) : PyData := if wholeOk z = true ∧ (figs z).length ≤ 9 then .int (wholeV z) else .none
def lawBy (z : List Nat) : PyData := if z.head? = some 35 then .tuple [.str Kind.worth.nm, lawNum z.tail] else .tuple [.str Kind.box.nm, lawNum z]
def lawPartIn : Kind → List Nat → PyData
  | .box, z => lawNum z
  | .worth, z => lawNum z
  | .offset, z => lawNum z
  | .to, z => lawNum z
  | .by_, z => lawBy z
  | .rights, z => rightsIn z
  | _, z => .str (SX.S z)
theorem val_ge : ∀ (l : List Nat) (a : Nat), a * 10 ^ l.length ≤ l.foldl (fun acc c => acc * 10 + (c - 48)) a
  | [], a => by simp
  | c :: r, a => by
    have := val_ge r (a * 10 + (c - 48))
    rw [List.foldl_cons, List.length_cons, Nat.pow_succ]
    refine Nat.le_trans ?_ this
    rw [Nat.mul_comm (10 ^ r.length) 10, ← Nat.mul_assoc]
    exact Nat.mul_le_mul_right _ (by omega)
theorem wholeV_big {z : List Nat} (h : wholeOk z = true) (l : 9 < (figs z).length) : 10 ^ 9 ≤ (wholeV z).natAbs := by
  unfold wholeOk at h
  simp only [Bool.and_eq_true, Bool.or_eq_true, decide_eq_true_iff] at h
  have key : 10 ^ 9 ≤ NumText.digitsVal (figs z) := by
    cases e : figs z with
    | nil => rw [e] at l; simp at l
    | cons c r =>
      have h48 : c ≠ 48 := by
        rcases h.2 with q | q
        · rw [e] at q; intro x; exact q (by rw [x]; rfl)
        · rw [q] at e l
          have : figs [48] = [48] := rfl
          rw [this] at l; simp at l
      have hc := allF h.1.1.2 c (by rw [e]; exact List.mem_cons_self ..)
      show 10 ^ 9 ≤ (c :: r).foldl _ 0
      rw [List.foldl_cons]
      refine Nat.le_trans ?_ (val_ge r _)
      rw [e, List.length_cons] at l
      have p1 : 10 ^ 9 ≤ 10 ^ r.length := Nat.pow_le_pow_right (by decide) (by omega)
      have : 1 * 10 ^ r.length ≤ (0 * 10 + (c - 48)) * 10 ^ r.length := Nat.mul_le_mul_right _ (by omega)
      omega
  unfold wholeV
  split <;> omega
theorem num_law (z : List Nat) {l m : Int} (hl : -100000 ≤ l) (hm : m ≤ 100000) : wholeD (lawNum z) l m = wholeD (wholeIn z) l m ∧ (wholeD (wholeIn z) l m = true → lawNum z = wholeIn z) := by
  by_cases c : wholeOk z = true ∧ (figs z).length ≤ 9
  · have e : lawNum z = wholeIn z := by
      unfold lawNum wholeIn
      rw [if_pos c, if_pos c.1]
    rw [e]; exact ⟨rfl, fun _ => rfl⟩
  · have e : lawNum z = .none := if_neg c
    by_cases k : wholeOk z = true
    · have e2 : wholeIn z = .int (wholeV z) := if_pos k
      have big := wholeV_big k (Nat.lt_of_not_le fun q => c ⟨k, q⟩)
      have f : wholeD (wholeIn z) l m = false := by
        rw [e2]
        exact decide_eq_false (by omega)
      rw [e, f]
      exact ⟨rfl, fun h => nomatch h⟩
    · have e2 : wholeIn z = .none := if_neg k
      rw [e, e2]; exact ⟨rfl, fun _ => rfl⟩
theorem by_law (z : List Nat) : byD (lawBy z) = byD (byIn z) ∧ (byD (byIn z) = true → lawBy z = byIn z) := by
  unfold lawBy byIn
  split
  · have := num_law z.tail (l := 0) (m := 65535) (by decide) (by decide)
    have u : ∀ d, byD (.tuple [.str Kind.worth.nm, d]) = wholeD d 0 65535 := fun d => by
      show (if Kind.worth.nm = Kind.box.nm then wholeD d 0 7 else if Kind.worth.nm = Kind.worth.nm then wholeD d 0 65535 else false) = _
      rw [if_neg (fun h => box_ne_worth h.symm), if_pos rfl]
    rw [u, u]
    exact ⟨this.1, fun h => by rw [this.2 h]⟩
  · have := num_law z (l := 0) (m := 7) (by decide) (by decide)
    have u : ∀ d, byD (.tuple [.str Kind.box.nm, d]) = wholeD d 0 7 := fun d => by
      show (if Kind.box.nm = Kind.box.nm then wholeD d 0 7 else if Kind.box.nm = Kind.worth.nm then wholeD d 0 65535 else false) = _
      rw [if_pos rfl]
    rw [u, u]
    exact ⟨this.1, fun h => by rw [this.2 h]⟩
theorem part_law (k : Kind) (z : List Nat) : partD k (lawPartIn k z) = partD k (partIn k z) ∧ (partD k (partIn k z) = true → lawPartIn k z = partIn k z) := by
  cases k with
  | box => exact num_law z (l := 0) (m := 7) (by decide) (by decide)
  | worth => exact num_law z (l := 0) (m := 65535) (by decide) (by decide)
  | offset => exact num_law z (l := -8) (m := 15) (by decide) (by decide)
  | to => exact num_law z (l := 0) (m := 4095) (by decide) (by decide)
  | by_ => exact by_law z
  | rights => exact ⟨rfl, fun _ => rfl⟩
  | doing => exact ⟨rfl, fun _ => rfl⟩
  | asked => exact ⟨rfl, fun _ => rfl⟩
  | test => exact ⟨rfl, fun _ => rfl⟩
theorem parts_law : ∀ (ks : List Kind) (r : List (List Nat)), partsD ks (List.zipWith lawPartIn ks r) = partsD ks (List.zipWith partIn ks r) ∧ (partsD ks (List.zipWith partIn ks r) = true → List.zipWith lawPartIn ks r = List.zipWith partIn ks r)
  | [], r => ⟨rfl, fun _ => rfl⟩
  | k :: ks, [] => ⟨rfl, fun _ => rfl⟩
  | k :: ks, z :: r => by
    have a := part_law k z
    have b := parts_law ks r
    rw [List.zipWith_cons_cons, List.zipWith_cons_cons]
    unfold partsD
    refine ⟨by rw [a.1, b.1], fun h => ?_⟩
    rw [Bool.and_eq_true] at h
    rw [a.2 h.1, b.2 h.2]
theorem row_law {w : Str} {ks : List Kind} (hl : look formsK w = some ks) (r : List (List Nat)) : rowD (.tuple (.str w :: List.zipWith lawPartIn ks r)) = rowD (.tuple (.str w :: List.zipWith partIn ks r)) ∧ (rowD (.tuple (.str w :: List.zipWith partIn ks r)) = true → PyData.tuple (.str w :: List.zipWith lawPartIn ks r) = .tuple (.str w :: List.zipWith partIn ks r)) := by
  have u : ∀ ps, rowD (.tuple (.str w :: ps)) = partsD ks ps := fun ps => by
    show (match look formsK w with
      | some ks => partsD ks ps
      | none => false) = _
    rw [hl]
  rw [u, u]
  have := parts_law ks r
  exact ⟨this.1, fun h => by rw [this.2 h]⟩
theorem lawNum_any {H H' : Hp} {v : V} {z : List Nat} (h : Dx H v (lawNum z)) : Dx H' v (lawNum z) := by
  unfold lawNum at h ⊢
  split at h
  · cases h; rw [if_pos (by assumption)]; exact .int _
  · cases h; rw [if_neg (by assumption)]; exact .non
theorem lawNum_nice {z : List Nat} : Nice 160 60 (lawNum z) := by
  unfold lawNum
  split
  · rename_i h
    have big : (wholeV z).natAbs < 2 ^ 160 := by
      have : NumText.digitsVal (figs z) < 10 ^ (figs z).length := by
        have key : ∀ (l : List Nat) (a : Nat), NumText.AllDigits l → l.foldl (fun acc c => acc * 10 + (c - 48)) a < (a + 1) * 10 ^ l.length := by
          intro l
          induction l with
          | nil => intro a _; simp
          | cons c r ih =>
            intro a hd
            have := ih (a * 10 + (c - 48)) hd.tail
            have hc := hd.head
            rw [List.foldl_cons, List.length_cons, Nat.pow_succ]
            refine Nat.lt_of_lt_of_le this ?_
            rw [Nat.mul_comm (10 ^ r.length) 10, ← Nat.mul_assoc]
            exact Nat.mul_le_mul_right _ (by omega)
        have hw := h.1
        unfold wholeOk at hw
        simp only [Bool.and_eq_true] at hw
        have := key (figs z) 0 (allF hw.1.1.2)
        rw [Nat.zero_add, Nat.one_mul] at this
        exact this
      have p2 : 10 ^ (figs z).length ≤ 10 ^ 9 := Nat.pow_le_pow_right (by decide) h.2
      have p3 : (10 : Nat) ^ 9 < 2 ^ 160 := by decide
      unfold wholeV
      split <;> omega
    exact nice_int big (by decide)
  · exact nice_none
theorem txt_str {n : Nat} {z : List Nat} (h : TxtOk n z) : Nice n 60 (.str (SX.S z)) := by
  refine nice_str ?_ ?_
  · unfold PyData.strOk
    rw [Array.all_eq_true_iff_forall_mem]
    intro c hc
    have : c ∈ z := by simpa using hc
    have := h.2 c this
    exact decide_eq_true (by omega)
  · show (SX.S z).cps.size ≤ n
    have := h.1
    simpa using this
theorem lawPart_nice {n : Nat} {k : Kind} {z : List Nat} (h : TxtOk n z) : Nice (n + 400) 60 (lawPartIn k z) ∧ ∀ s, lawPartIn k z = .str s → s.cps.size ≤ n := by
  have num : Nice (n + 400) 60 (lawNum z) ∧ ∀ s, lawNum z = .str s → s.cps.size ≤ n := by
    refine ⟨lawNum_nice.mono (by omega) (Nat.le_refl _), fun s e => ?_⟩
    unfold lawNum at e
    split at e <;> cases e
  have str : Nice (n + 400) 60 (.str (SX.S z)) ∧ ∀ s, PyData.str (SX.S z) = .str s → s.cps.size ≤ n := by
    refine ⟨(txt_str h).mono (by omega) (Nat.le_refl _), fun s e => ?_⟩
    cases e
    have := h.1
    show (z.toArray).size ≤ n
    simpa using this
  cases k with
  | box => exact num
  | worth => exact num
  | offset => exact num
  | to => exact num
  | by_ =>
    have two : ∀ (w : Str) (y : List Nat), (PyData.strOk w && decide (w.cps.size ≤ 6)) = true → Nice (n + 400) 60 (.tuple [.str w, lawNum y]) := fun w y hw => by
      have a : Nice 6 59 (.str w) := nice_lit hw
      have b : Nice 160 59 (lawNum y) := by
        have := lawNum_nice (z := y)
        refine ⟨⟨this.ft.sh, this.ft.lv, this.ft.wt, ?_⟩, this.ly⟩
        unfold lawNum
        split <;> simp [PyData.depth]
      exact (NiceAll.cons a (NiceAll.cons b (NiceAll.nil (n := 0)))).tuple.mono (by omega) (by decide)
    refine ⟨?_, fun s e => ?_⟩
    · show Nice _ _ (lawBy z)
      unfold lawBy
      split
      · exact two _ _ (by decide +kernel)
      · exact two _ _ (by decide +kernel)
    · replace e : lawBy z = .str s := e
      unfold lawBy at e
      split at e <;> cases e
  | rights =>
    show Nice _ _ (rightsIn z) ∧ ∀ s, rightsIn z = .str s → _
    unfold rightsIn
    split
    · exact ⟨nice_none, fun s e => nomatch e⟩
    · split
      · exact ⟨(nice_lit (z := SX.S []) (by decide +kernel) : Nice 0 60 _).mono (by omega) (Nat.le_refl _), fun s e => by cases e; simp⟩
      · exact str
  | doing => exact str
  | asked => exact str
  | test => exact str
theorem TxtOk.mono {n m : Nat} {z : List Nat} (h : TxtOk n z) (k : n ≤ m) : TxtOk m z := ⟨Nat.le_trans h.1 k, h.2⟩
theorem spl_codes (c : Nat) : ∀ (z acc : List Nat), ∀ p ∈ TL.spl [c] 0 acc z, ∀ x ∈ p, x ∈ acc ∨ x ∈ z
  | [], acc, p, h, x, hx => by
    rw [TL.spl_nil] at h
    rw [List.mem_singleton.mp h] at hx
    exact .inl hx
  | a :: r, acc, p, h, x, hx => by
    by_cases e : a = c
    · subst e
      rw [TL.spl_hit (by simp [TL.pre])] at h
      replace h : p ∈ acc :: TL.spl [a] 0 [] r := h
      rcases List.mem_cons.mp h with q | q
      · rw [q] at hx; exact .inl hx
      · rcases spl_codes a r [] p q x hx with y | y
        · cases y
        · exact .inr (List.mem_cons_of_mem _ y)
    · rw [TL.spl_miss (by simp [TL.pre, e])] at h
      rcases spl_codes c r (acc ++ [a]) p h x hx with y | y
      · rcases List.mem_append.mp y with w | w
        · exact .inl w
        · rw [List.mem_singleton.mp w]; exact .inr (List.mem_cons_self ..)
      · exact .inr (List.mem_cons_of_mem _ y)
theorem TxtOk.spl {n : Nat} {z : List Nat} (c : Nat) (h : TxtOk n z) : ∀ p ∈ TL.spl [c] 0 [] z, TxtOk n p := fun p hp => ⟨by
    have := spl_mem c z [] p hp
    have := h.1
    simp only [List.length_nil] at *
    omega, fun x hx => by
    rcases spl_codes c z [] p hp x hx with y | y
    · cases y
    · exact h.2 x y⟩
theorem cutneg (z : List Nat) (b : Bool) (c : Nat) (hb : b = decide (z.head? = some c)) : cutS (SX.S z) (some (if b = true then 1 else 0)) none = SX.S (if z.head? = some c then z.tail else z) := by
  rw [C8.cutS_slice]
  cases b with
  | true =>
    have h : z.head? = some c := of_decide_eq_true hb.symm
    rw [if_pos rfl, if_pos h, SX.slice_from (by decide)]
    congr 1
    cases z <;> rfl
  | false =>
    have h : ¬ z.head? = some c := of_decide_eq_false hb.symm
    rw [if_neg Bool.false_ne_true, if_neg h, SX.slice_from (by decide)]
    rfl
theorem in_digits (c : Nat) : decide (c ∈ (Str.ofString "0123456789").cps.toList) = isF c := by
  have e : (Str.ofString "0123456789").cps.toList = [48, 49, 50, 51, 52, 53, 54, 55, 56, 57] := by decide +kernel
  rw [e]
  unfold isF
  rw [Bool.eq_iff_iff, Bool.and_eq_true, decide_eq_true_iff, decide_eq_true_iff, decide_eq_true_iff]
  simp only [List.mem_cons, List.not_mem_nil, or_false]
  omega
theorem figs_if (z : List Nat) : figs z = if z.head? = some 45 then z.tail else z := by
  unfold figs negL
  by_cases h : z.head? = some 45
  · rw [if_pos (decide_eq_true h), if_pos h]
  · rw [if_neg (by rw [decide_eq_false h]; exact Bool.false_ne_true), if_neg h]
theorem whole_iff' {z : List Nat} : wholeOk z = true ↔ figs z ≠ [] ∧ (∀ c ∈ figs z, isF c = true) ∧ (figs z).length ≤ 30 ∧ ¬ ((figs z).head? = some 48 ∧ z ≠ [48]) := by
  unfold wholeOk
  simp only [Bool.and_eq_true, Bool.or_eq_true, Bool.not_eq_true', decide_eq_true_iff, List.all_eq_true, not_and, Decidable.not_not]
  constructor
  · rintro ⟨⟨⟨a, b⟩, c⟩, d⟩
    exact ⟨fun e => (by rw [e] at a; cases a), b, c, fun h => d.resolve_left fun n => n h⟩
  · rintro ⟨a, b, c, d⟩
    refine ⟨⟨⟨?_, b⟩, c⟩, ?_⟩
    · cases e : figs z with
      | nil => exact absurd e a
      | cons _ _ => rfl
    · by_cases h : (figs z).head? = some 48
      · exact .inr (d h)
      · exact .inl h
theorem zero_iff (z : List Nat) : ((figs z).head? = some 48 ∧ z ≠ [48]) ↔ ((figs z).head? = some 48 ∧ figs z ≠ [48]) ∨ z = [45, 48] := by
  constructor
  · rintro ⟨a, b⟩
    by_cases e : figs z = [48]
    · refine .inr ?_
      rw [figs_if] at e
      split at e
      · rename_i h
        cases z with
        | nil => cases h
        | cons c r => rw [show (c :: r).tail = r from rfl] at e; rw [e, Option.some.inj h]
      · exact absurd e b
    · exact .inl ⟨a, e⟩
  · rintro (⟨a, b⟩ | e)
    · exact ⟨a, fun z1 => b (by rw [z1]; rfl)⟩
    · subst e; exact ⟨rfl, by decide⟩
theorem badl_nil {l : List Nat} : (l.filter fun c => !isF c) = [] ↔ ∀ c ∈ l, isF c = true := by
  rw [List.filter_eq_nil_iff]
  exact ⟨fun h c hc => by have := h c hc; simpa using this, fun h c hc => by rw [h c hc]; simp⟩
theorem ok_ones {l : List Nat} (h : ∀ c ∈ l, c < 128) : ∀ x ∈ l.map one, PyData.strOk x = true := fun x hx => by
  obtain ⟨c, hc, rfl⟩ := List.mem_map.mp hx
  have := h c hc
  unfold PyData.strOk one
  simp; omega
theorem val_lt {l : List Nat} (h : ∀ c ∈ l, isF c = true) : NumText.digitsVal l < 10 ^ l.length := by
  have key : ∀ (l : List Nat) (a : Nat), NumText.AllDigits l → l.foldl (fun acc c => acc * 10 + (c - 48)) a < (a + 1) * 10 ^ l.length := by
    intro l
    induction l with
    | nil => intro a _; simp
    | cons c r ih =>
      intro a hd
      have := ih (a * 10 + (c - 48)) hd.tail
      have hc := hd.head
      rw [List.foldl_cons, List.length_cons, Nat.pow_succ]
      refine Nat.lt_of_lt_of_le this ?_
      rw [Nat.mul_comm (10 ^ r.length) 10, ← Nat.mul_assoc]
      exact Nat.mul_le_mul_right _ (by omega)
  have := key l 0 (allF (List.all_eq_true.mpr h))
  rw [Nat.zero_add, Nat.one_mul] at this
  exact this
theorem filter_take (l : List Nat) (f : Nat → Bool) {i c : Nat} (h : l[i]? = some c) : (l.take (i + 1)).filter f = (l.take i).filter f ++ (if f c = true then [c] else []) := by
  rw [List.take_add_one, h, List.filter_append]
  congr 1
  by_cases e : f c = true
  · simp [e]
  · simp [e]
theorem mzero_S : Str.ofString "-0" = SX.S [45, 48] := by decide +kernel
def twoR : List (Key × V) := [(Sum.inr (Str.ofString ""), V.non), (Sum.inr (Str.ofString "-"), V.str (Str.ofString ""))]
theorem twoR_merge : mergeK [] twoR = twoR := mergeK_fresh twoR [] (by show (keysOf twoR).Nodup; decide +kernel)
theorem twoR_a : valV twoR (Sum.inr (Str.ofString "")) = some .non := by
  unfold twoR valV
  rw [List.find?_cons, decide_eq_true (rfl : (Sum.inr (Str.ofString "") : Key) = Sum.inr (Str.ofString ""))]
  rfl
theorem twoR_b : valV twoR (Sum.inr (Str.ofString "-")) = some (.str (Str.ofString "")) := by
  have n : (Sum.inr (Str.ofString "") : Key) ≠ Sum.inr (Str.ofString "-") := fun e => absurd (Sum.inr.inj e) (by decide +kernel)
  unfold twoR valV
  rw [List.find?_cons, decide_eq_false n]
  dsimp only
  rw [List.find?_cons, decide_eq_true (rfl : (Sum.inr (Str.ofString "-") : Key) = Sum.inr (Str.ofString "-"))]
  rfl
theorem any_strsX (s : Str) (l : List Str) : ((l.map PyData.str).any fun z => PyData.eqv z (.str s)) = decide (s ∈ l) := by
  induction l with
  | nil => simp
  | cons x r ih =>
    rw [List.map_cons, List.any_cons, ih, Bool.eq_iff_iff, Bool.or_eq_true, decide_eq_true_iff, decide_eq_true_iff, List.mem_cons]
    have : PyData.eqv (.str x) (.str s) = true ↔ s = x := by
      simp only [PyData.eqv, beq_iff_eq]
      exact ⟨Eq.symm, Eq.symm⟩
    rw [this]
theorem words_okX : ∀ k : Kind, ∀ s ∈ wordsOf k, PyData.strOk s = true := by
  intro k s hs
  have := (words_nice k s hs).ly
  simpa [PyData.canLay0] using this
theorem doing_not : doS ∉ wordsOf .doing := by decide +kernel
theorem zip_mem {α β γ : Type} {f : α → β → γ} : ∀ {l : List α} {m : List β} {x : γ}, x ∈ List.zipWith f l m → ∃ a b, a ∈ l ∧ b ∈ m ∧ x = f a b
  | [], _, _, h => nomatch h
  | _ :: _, [], _, h => nomatch h
  | a :: l, b :: m, x, h => by
    rw [List.zipWith_cons_cons] at h
    rcases List.mem_cons.mp h with e | e
    · exact ⟨a, b, List.mem_cons_self .., List.mem_cons_self .., e⟩
    · obtain ⟨a', b', h1, h2, h3⟩ := zip_mem e
      exact ⟨a', b', List.mem_cons_of_mem _ h1, List.mem_cons_of_mem _ h2, h3⟩
theorem lawRow_nice {w : Str} {ks : List Kind} {r : List (List Nat)} {n : Nat} (hw : w ∈ formsK.map (·.1)) (hr : ∀ x ∈ r, TxtOk n x) (hn : 6 ≤ n) : (∃ m, NiceAll m 60 (.str w :: List.zipWith lawPartIn ks r)) ∧ ∀ s, .str s ∈ (PyData.str w :: List.zipWith lawPartIn ks r) → s.cps.size ≤ n := by
  have a : ∀ d ∈ List.zipWith lawPartIn ks r, Nice (n + 400) 60 d ∧ ∀ s, d = .str s → s.cps.size ≤ n := fun d hd => by
    obtain ⟨k, z, _, hz, rfl⟩ := zip_mem hd
    exact lawPart_nice (hr z hz)
  refine ⟨⟨_, NiceAll.cons ((word_nice hw).mono (Nat.le_refl _) (by decide)) (NiceAll.of fun d hd => (a d hd).1)⟩, fun s hs => ?_⟩
  rcases List.mem_cons.mp hs with e | e
  · cases e
    have all : ∀ w ∈ formsK.map (·.1), w.cps.size ≤ 6 := by decide +kernel
    exact Nat.le_trans (all w hw) hn
  · exact (a _ e).2 s rfl
theorem rowOf_law {w1 : List Nat} {r1 : List (List Nat)} {ks : List Kind} (hl : look formsK (SX.S w1) = some ks) (el : r1.length = ks.length) : rowOf (w1 :: r1) = if rowD (.tuple (.str (SX.S w1) :: List.zipWith lawPartIn ks r1)) = true then .tuple (.str (SX.S w1) :: List.zipWith lawPartIn ks r1) else .none := by
  have ro : rowOf (w1 :: r1) = if r1.length = ks.length then (if rowD (.tuple (.str (SX.S w1) :: List.zipWith partIn ks r1)) = true then .tuple (.str (SX.S w1) :: List.zipWith partIn ks r1) else .none) else .none := by
    unfold rowOf
    dsimp only
    rw [hl]
  have rl := row_law hl r1
  rw [ro, if_pos el, rl.1]
  split
  · rename_i h
    rw [rl.2 h]
  · rfl
theorem dx_non {H : Hp} {v : V} {d : PyData} (h : Dx H v d) : v = .non ↔ isNone d = true := by
  cases h <;> first | exact ⟨fun _ => rfl, fun _ => rfl⟩ | exact ⟨fun h => (nomatch h), fun h => (nomatch h)⟩
theorem badLine_none {ds : List PyData} {n : Nat} (hn : ds.length ≤ n) (h : ∀ i d, i < n → ds[i]? = some d → isNone d = false) : badLine ds = none := by
  unfold badLine
  rw [List.findIdx?_eq_none_iff]
  intro d hd
  obtain ⟨i, hi⟩ := List.getElem?_of_mem hd
  have := (List.getElem?_eq_some_iff.mp hi).1
  exact h i d (by omega) hi
theorem badLine_some {ds : List PyData} {n : Nat} {d : PyData} (h : ∀ i d, i < n → ds[i]? = some d → isNone d = false) (hd : ds[n]? = some d) (hb : isNone d = true) : badLine ds = some n := by
  unfold badLine
  obtain ⟨hn, e⟩ := List.getElem?_eq_some_iff.mp hd
  rw [List.findIdx?_eq_some_iff_getElem]
  refine ⟨hn, by rw [e]; exact hb, fun j hj => ?_⟩
  have := h j ds[j] hj (List.getElem?_eq_getElem (by omega))
  rw [this]; exact Bool.false_ne_true
/-! ### lists of texts and how long they are -/
def W : List (List Nat) → Nat
  | [] => 0
  | x :: r => x.length + 1 + W r
theorem W_app : ∀ (a b : List (List Nat)), W (a ++ b) = W a + W b
  | [], b => by simp [W]
  | x :: r, b => by
    show x.length + 1 + W (r ++ b) = x.length + 1 + W r + W b
    rw [W_app r b]; omega
theorem W_take (i : Nat) (a : List (List Nat)) : W (a.take i) + W (a.drop i) = W a := by
  rw [← W_app, List.take_append_drop]
theorem W_at {a : List (List Nat)} {i : Nat} {x : List Nat} (h : a[i]? = some x) : W (a.take i) + (x.length + 1) + W (a.drop (i + 1)) = W a := by
  have hi := (List.getElem?_eq_some_iff.mp h).1
  have e : a.drop i = x :: a.drop (i + 1) := by
    rw [List.drop_eq_getElem_cons hi, (List.getElem?_eq_some_iff.mp h).2]
  have := W_take i a
  rw [e] at this
  have u : W (x :: a.drop (i + 1)) = x.length + 1 + W (a.drop (i + 1)) := rfl
  omega
theorem W_spl (c : Nat) : ∀ (z acc : List Nat), W (TL.spl [c] 0 acc z) = acc.length + z.length + 1
  | [], acc => by rw [TL.spl_nil]; simp [W]
  | a :: r, acc => by
    by_cases e : a = c
    · subst e
      rw [TL.spl_hit (by simp [TL.pre])]
      have := W_spl a r []
      show acc.length + 1 + W (TL.spl [a] 0 [] r) = _
      rw [this, List.length_cons, List.length_nil]; omega
    · rw [TL.spl_miss (by simp [TL.pre, e]), W_spl c r, List.length_append, List.length_cons, List.length_cons, List.length_nil]; omega
theorem W_sum : ∀ (a : List (List Nat)), (a.map (·.length)).sum + a.length = W a
  | [] => rfl
  | x :: r => by
    have := W_sum r
    rw [List.map_cons, List.sum_cons, List.length_cons]
    show _ = x.length + 1 + W r
    omega
theorem W_join (c : Nat) : ∀ (a : List (List Nat)), (TL.joinL [c] a).length ≤ W a
  | [] => by simp [TL.joinL]
  | [p] => by show p.length ≤ _; simp [W]
  | p :: q :: r => by
    have := W_join c (q :: r)
    show (p ++ ([c] ++ TL.joinL [c] (q :: r))).length ≤ p.length + 1 + W (q :: r)
    rw [List.length_append, List.length_append, List.length_singleton]
    omega
def AllC (a : List (List Nat)) : Prop := ∀ x ∈ a, ∀ c ∈ x, c < 128
theorem AllC.app {a b : List (List Nat)} (h : AllC a) (k : AllC b) : AllC (a ++ b) := fun x hx => by
  rcases List.mem_append.mp hx with m | m
  · exact h x m
  · exact k x m
theorem AllC.take {a : List (List Nat)} (h : AllC a) (i : Nat) : AllC (a.take i) := fun x hx => h x (List.mem_of_mem_take hx)
theorem AllC.drop {a : List (List Nat)} (h : AllC a) (i : Nat) : AllC (a.drop i) := fun x hx => h x (List.mem_of_mem_drop hx)
theorem AllC.one {x : List Nat} (h : ∀ c ∈ x, c < 128) : AllC [x] := fun y hy => by rw [List.mem_singleton.mp hy]; exact h
theorem AllC.nil : AllC [] := fun _ h => nomatch h
theorem join_txtOk {a : List (List Nat)} {n c : Nat} (h : AllC a) (hc : c < 128) (hn : W a ≤ n) : TxtOk n (TL.joinL [c] a) := ⟨Nat.le_trans (W_join c a) hn, fun x hx => by
  rcases joinL_codes hx with ⟨p, hp, m⟩ | m
  · exact h p hp x m
  · rw [List.mem_singleton.mp m]; exact hc⟩
theorem join_W {a : List (List Nat)} {c : Nat} (h : W a ≤ 16777216) : ((a.map SX.S).map (·.length)).sum + (a.map SX.S).length * (SX.S [c]).length ≤ 16777216 := by
  rw [SX.lens, SX.S_len, List.length_map]
  have := W_sum a
  show _ + _ * 1 ≤ _
  omega
def shorts (ss : List Str) : Bool := ss.all fun s => decide (s.cps.toList.length ≤ 10) && s.cps.toList.all (fun c => decide (c < 128))
theorem shorts_ok {ss : List Str} (h : shorts ss = true) : ∀ v ∈ ss.map V.str, ∃ z, v = V.str (SX.S z) ∧ TxtOk 10 z := fun v hv => by
  obtain ⟨s, hs, rfl⟩ := List.mem_map.mp hv
  have := List.all_eq_true.mp h s hs
  rw [Bool.and_eq_true, decide_eq_true_iff, List.all_eq_true] at this
  exact ⟨s.cps.toList, by rw [S_back], this.1, fun c hc => of_decide_eq_true (this.2 c hc)⟩
theorem cutS_to (z : List Nat) (m : Nat) : cutS (SX.S z) none (some (m : Int)) = SX.S (z.take m) := by
  rw [C8.cutS_slice, SX.slice_to (by omega)]
  rfl
theorem cutS_from (z : List Nat) (m : Nat) : cutS (SX.S z) (some (m : Int)) none = SX.S (z.drop m) := by
  rw [C8.cutS_slice, SX.slice_from (by omega)]
  rfl
def oddA : List Str := [Str.ofString "", Str.ofString "0", Str.ofString "8", Str.ofString "#5", Str.ofString "#65536", Str.ofString "-1", Str.ofString "-9", Str.ofString "16", Str.ofString "00", Str.ofString "-0", Str.ofString "+1", Str.ofString "#-1", Str.ofString "rw", Str.ofString "wr", Str.ofString "-", Str.ofString "plus", Str.ofString "do"]
def oddB : List Str := [Str.ofString "same", Str.ofString "mark", Str.ofString "4096", Str.ofString "x1", Str.ofString "#", Str.ofString "1.0", Str.ofString "set", Str.ofString "back", Str.ofString "here", Str.ofString "000001", Str.ofString "back back"]
def oddC : List Str := [Str.ofString " ", Str.ofString "\n", Str.ofString "0", Str.ofString "a", Str.ofString "#", Str.ofString "-", Str.ofString "+"]
theorem odd_ok : shorts (oddA ++ oddB) = true ∧ shorts oddC = true := by decide +kernel
/-- a list at p, apart from the pool -/
def LA (a : Addr) (H : Hp) (p : Addr) (xs : List V) : Prop := H p = some (.lst xs) ∧ p ≠ a
theorem LA.but {a p : Addr} {H H' : Hp} {xs : List V} (h : LA a H p xs) (b : But a H H') : LA a H' p xs := ⟨b _ _ h.2 h.1, h.2⟩
theorem LA.new {a p : Addr} {H : Hp} {xs : List V} {x y : Int} (P : Pool H a x y) (hp : H p = none) : LA a (upd H p (.lst xs)) p xs := ⟨upd_same, (ne_of_none P.1 hp).symm⟩
theorem at_map {ls : List (List Nat)} {m : Nat} {z : List Nat} (h : ls[m]? = some z) : atI (ls.map (V.str ∘ SX.S)) (m : Int) = some (V.str (SX.S z)) := atI_nat (by rw [List.getElem?_map, h]; rfl)

def ansD (d : PyData) : PyData := match readD d with
  | .inl n => .list [.str (Str.ofString "none"), match n with
    | none => .none
    | some n => .int (n : Int)]
  | .inr rs => .list rs

theorem readD_rows {d : PyData} {rs : List PyData} (h : readD d = .inr rs) : (∀ r ∈ rs, rowD r = true) ∧ rs.length ≤ 64 := by
  cases d with
  | str s =>
    have e : readD (.str s) = match badLine (linesIn s.cps.toList) with
      | some j => .inl (some j)
      | none => if (linesIn s.cps.toList).length > 64 then .inl none else .inr (linesIn s.cps.toList) := rfl
    rw [e] at h
    cases hb : badLine (linesIn s.cps.toList) with
    | some j => rw [hb] at h; cases h
    | none =>
      rw [hb] at h
      dsimp only at h
      split at h
      · cases h
      · cases h
        refine ⟨fun r hr => ?_, by omega⟩
        have := (List.findIdx?_eq_none_iff.mp hb) r hr
        obtain ⟨y, _, rfl⟩ := List.mem_map.mp hr
        rcases rowIn_or y with e | e
        · rw [e] at this; cases this
        · exact e
  | _ => cases h
def TT (d : PyData) : Prop := ∀ s, d = .str s → TxtOk 500000 s.cps.toList
theorem readD_num {d : PyData} {j : Nat} (t : TT d) (h : readD d = .inl (some j)) : j ≤ 500001 := by
  cases d with
  | str s =>
    have e : readD (.str s) = match badLine (linesIn s.cps.toList) with
      | some j => .inl (some j)
      | none => if (linesIn s.cps.toList).length > 64 then .inl none else .inr (linesIn s.cps.toList) := rfl
    rw [e] at h
    cases hb : badLine (linesIn s.cps.toList) with
    | some i =>
      rw [hb] at h
      cases h
      have l := (List.findIdx?_eq_some_iff_getElem.mp hb).1
      have := spl_len 10 s.cps.toList []
      have u := (t s rfl).1
      unfold linesIn at l
      rw [List.length_map] at l
      omega
    | none =>
      rw [hb] at h
      dsimp only at h
      split at h <;> cases h
  | _ => cases h
theorem ans_ok {d : PyData} (t : TT d) : Nice 10000 5 (ansD d) ∧ noB (ansD d) = true := by
  unfold ansD
  cases h : readD d with
  | inr rs =>
    obtain ⟨a, b⟩ := readD_rows h
    exact ⟨(rows_nice a).mono (by omega) (by decide), rows_noB a⟩
  | inl n =>
    cases n with
    | none => exact ⟨(NiceAll.cons (n := 4) (k := 1) (nice_lit (by decide +kernel)) (NiceAll.cons (n := 0) (m := 0) nice_none .nil)).list.mono (by decide) (by decide), by simp [noB, noBAll]⟩
    | some j =>
      have := readD_num t h
      exact ⟨(NiceAll.cons (n := 4) (k := 1) (nice_lit (by decide +kernel)) (NiceAll.cons (n := 20) (m := 0) (nice_int (by omega) (by decide)) .nil)).list.mono (by decide) (by decide), by simp [noB, noBAll]⟩
theorem ans_refl {d : PyData} (t : TT d) : PyData.eqv (ansD d) (ansD d) = true := (eqv_noB (ans_ok t).2 (ans_ok t).2).mpr rfl
def Wt (G : Hp) (vs : List V) : Prop := ∀ v ∈ vs, ∃ d, Dx G v d ∧ TT d
theorem Wt.same {G G' : Hp} {vs : List V} (w : Wt G vs) (s : Same G G') : Wt G' vs := fun v hv => by
  obtain ⟨d, h, c⟩ := w v hv
  exact ⟨d, h.same s, c⟩
theorem Wt.cons {G : Hp} {v : V} {vs : List V} {d : PyData} (h : Dx G v d) (c : TT d) (w : Wt G vs) : Wt G (v :: vs) := fun u hu => by
  rcases List.mem_cons.mp hu with e | e
  · rw [e]; exact ⟨d, h, c⟩
  · exact w u e
theorem Wt.nil {G : Hp} : Wt G [] := fun _ h => nomatch h
theorem Wt.app {G : Hp} {vs us : List V} (w : Wt G vs) (w' : Wt G us) : Wt G (vs ++ us) := fun u hu => by
  rcases List.mem_append.mp hu with e | e
  · exact w u e
  · exact w' u e
theorem Wt.txt {G : Hp} {z : List Nat} {vs : List V} {n : Nat} (h : TxtOk n z) (hn : n ≤ 500000) (w : Wt G vs) : Wt G (V.str (SX.S z) :: vs) := Wt.cons (.str _) (fun s e => by cases e; exact h.mono hn) w
theorem Wt.lit {G : Hp} {x : Str} {vs : List V} (h : (decide (x.cps.toList.length ≤ 100) && x.cps.toList.all (fun c => decide (c < 128))) = true) (w : Wt G vs) : Wt G (V.str x :: vs) := Wt.cons (.str _) (fun s e => by
  cases e
  rw [Bool.and_eq_true, decide_eq_true_iff, List.all_eq_true] at h
  exact ⟨Nat.le_trans h.1 (by decide), fun c hc => of_decide_eq_true (h.2 c hc)⟩) w
theorem TT.of {d : PyData} (h : dStr d = false) : TT d := fun s e => by subst e; cases h
theorem part_ascii {k : Kind} {d : PyData} (h : partD k d = true) : ∀ c ∈ partL k d, c < 128 := by
  have num : ∀ i : Int, ∀ c ∈ numI i, c < 128 := fun i c hc => by rcases numI_codes hc with e | e <;> omega
  have word : ∀ {k : Kind} {s : Str}, s ∈ wordsOf k → ∀ c ∈ s.cps.toList, c < 128 := fun {k s} m => by
    have all : ∀ s ∈ wordsOf .doing ++ wordsOf .asked ++ wordsOf .test, ∀ c ∈ s.cps.toList, c < 128 := by decide +kernel
    refine all s ?_
    cases k <;> first | (simp only [List.mem_append]; exact .inl (.inl m)) | (simp only [List.mem_append]; exact .inl (.inr m)) | (simp only [List.mem_append]; exact .inr m) | cases m
  by_cases kb : k = .by_
  · subst kb
    obtain ⟨w, i, rfl, _⟩ := byD_is h
    show ∀ c ∈ (if w = Kind.worth.nm then 35 :: numI i else numI i), c < 128
    split
    · intro c hc
      rcases List.mem_cons.mp hc with e | e
      · omega
      · exact num i c e
    · exact num i
  · rcases part_kind h kb with ⟨i, rfl, _, e⟩ | ⟨s, rfl, _, e⟩ | ⟨_, e⟩
    · rw [e]; exact num i
    · rw [e]
      cases k with
      | rights =>
        intro c hc
        have e2 : s = rtx (hasR s) := of_decide_eq_true h
        rw [e2] at hc
        obtain ⟨k, hk, q⟩ := rtx_codes_mem hc
        have := code_big k hk
        omega
      | doing => exact word (k := .doing) (of_decide_eq_true h)
      | asked => exact word (k := .asked) (of_decide_eq_true h)
      | test => exact word (k := .test) (of_decide_eq_true h)
      | by_ => exact absurd rfl kb
      | _ => cases h
    · rw [e]; intro c hc; rw [List.mem_singleton.mp hc]; decide
theorem parts_ascii : ∀ {ks : List Kind} {ds : List PyData}, partsD ks ds = true → ∀ p ∈ List.zipWith partL ks ds, ∀ c ∈ p, c < 128
  | [], [], _, _, h => nomatch h
  | k :: ks, d :: ds, h, p, m => by
    unfold partsD at h
    rw [Bool.and_eq_true] at h
    rw [List.zipWith_cons_cons] at m
    rcases List.mem_cons.mp m with e | e
    · rw [e]; exact part_ascii h.1
    · exact parts_ascii h.2 p e
theorem row_ascii {d : PyData} (h : rowD d = true) : ∀ c ∈ rowL d, c < 128 := by
  obtain ⟨w, ks, ps, rfl, hl, hp⟩ := row_form h
  have e : rowParts (.tuple (.str w :: ps)) = (if w = doS then [] else [w.cps.toList]) ++ List.zipWith partL ks ps := by
    show _ ++ List.zipWith partL ((look formsK w).getD []) ps = _
    rw [hl]; rfl
  have mw : w ∈ formsK.map (·.1) := List.mem_map.mpr ⟨_, look_mem hl, rfl⟩
  have all : ∀ w ∈ formsK.map (·.1), ∀ c ∈ w.cps.toList, c < 128 := by decide +kernel
  intro c hc
  rcases joinL_codes hc with ⟨p, hpm, m⟩ | m
  · rw [e] at hpm
    rcases List.mem_append.mp hpm with h | h
    · split at h
      · cases h
      · rw [List.mem_singleton.mp h] at m; exact all w mw c m
    · exact parts_ascii hp p h c m
  · rw [List.mem_singleton.mp m]; decide
theorem text_ok {ds : List PyData} (h : ∀ d ∈ ds, rowD d = true) {n : Nat} (hn : 56 * ds.length ≤ n) : TxtOk n (textL ds) := ⟨Nat.le_trans (text_len h) hn, fun c hc => by
  rcases joinL_codes hc with ⟨p, hp, m⟩ | m
  · obtain ⟨d, hd, rfl⟩ := List.mem_map.mp hp
    exact row_ascii (h d hd) c m
  · rw [List.mem_singleton.mp m]; decide⟩
def bk : List Nat := [98, 97, 99, 107]
theorem bk_S : Str.ofString "back" = SX.S bk := by decide +kernel
theorem rep_flat (k : Nat) : (List.replicate k [V.str (Str.ofString "back")]).flatten = ((List.replicate k bk).map SX.S).map V.str := by
  rw [bk_S]
  induction k with
  | zero => rfl
  | succ k ih => rw [List.replicate_succ, List.flatten_cons, ih, List.replicate_succ]; rfl
theorem rep_txt {k : Nat} (hk : k ≤ 65) : W (List.replicate k bk) ≤ 325 ∧ AllC (List.replicate k bk) := by
  have w : ∀ k, W (List.replicate k bk) = 5 * k := by
    intro k
    induction k with
    | zero => rfl
    | succ k ih => rw [List.replicate_succ]; show 4 + 1 + W _ = _; rw [ih]; omega
  refine ⟨by rw [w]; omega, fun x hx => ?_⟩
  rw [List.eq_of_mem_replicate hx]
  decide

def topS (i : Nat) : Stmt := PySem.Challenge.pw_sealedreach_k27_texts_of_no_rows.main.body.getD i (.Pass ⟨0, 0, 0, 0⟩)
abbrev s__law_take : Stmt := topS 27
abbrev s__law_pool : Stmt := topS 26
abbrev s_is_whole : Stmt := topS 6
abbrev s_is_rights : Stmt := topS 10
abbrev s__is_part__v0 : Stmt := topS 17
abbrev s__is_by : Stmt := topS 18
abbrev s__is_part : Stmt := topS 17
abbrev s_is_row : Stmt := topS 16
abbrev s__law_forms : Stmt := topS 28
abbrev s__law_lists : Stmt := topS 29
abbrev s__law_part__v0 : Stmt := topS 30
abbrev s__law_part : Stmt := topS 30
abbrev s__law_row : Stmt := topS 31
abbrev s__law_is_from : Stmt := topS 32
abbrev s__law_is_part__v0 : Stmt := topS 33
abbrev s__law_is_part : Stmt := topS 33
abbrev s__law_is_row : Stmt := topS 34
abbrev s_whole_in : Stmt := topS 7
abbrev s__by_in : Stmt := topS 23
abbrev s__rights_in : Stmt := topS 24
abbrev s__part_in : Stmt := topS 22
abbrev s_row_in : Stmt := topS 21
abbrev s_read_rows : Stmt := topS 20
abbrev s__law_shown_part : Stmt := topS 35
abbrev s__law_line : Stmt := topS 36
abbrev s__law_text : Stmt := topS 37
abbrev s__law_number_in : Stmt := topS 38
abbrev s__law_part_in : Stmt := topS 39
abbrev s__law_row_in : Stmt := topS 40
abbrev s__law_due : Stmt := topS 41
abbrev s__law_told : Stmt := topS 42
abbrev s__law_bent : Stmt := topS 43
abbrev s_law : Stmt := topS 44
theorem sc__law_take : FnScope ["_law_pool_here", "_law_many", "_law_found"] ["_law_pool_here", "_law_many"] (defScope s__law_take) := ⟨rfl, rfl, rfl, by decide +kernel, rfl, by decide +kernel, by decide +kernel⟩
theorem sc__law_pool : FnScope ["_law_script", "_law_k", "_law_cell", "_law_great", "_law_mixed"] ["_law_script", "_law_k"] (defScope s__law_pool) := ⟨rfl, rfl, rfl, by decide +kernel, rfl, by decide +kernel, by decide +kernel⟩
theorem sc_is_whole : FnScope ["thing", "least", "most"] ["thing", "least", "most"] (defScope s_is_whole) := ⟨rfl, rfl, rfl, by decide +kernel, rfl, by decide +kernel, by decide +kernel⟩
theorem sc_is_rights : FnScope ["thing", "sign"] ["thing"] (defScope s_is_rights) := ⟨rfl, rfl, rfl, by decide +kernel, rfl, by decide +kernel, by decide +kernel⟩
theorem sc__is_part__v0 : FnScope ["thing", "what", "least", "greatest"] ["thing", "what"] (defScope s__is_part__v0) := ⟨rfl, rfl, rfl, by decide +kernel, rfl, by decide +kernel, by decide +kernel⟩
theorem sc__is_by : FnScope ["thing", "what", "number"] ["thing"] (defScope s__is_by) := ⟨rfl, rfl, rfl, by decide +kernel, rfl, by decide +kernel, by decide +kernel⟩
theorem sc__is_part : FnScope ["thing", "what", "least", "greatest"] ["thing", "what"] (defScope s__is_part) := ⟨rfl, rfl, rfl, by decide +kernel, rfl, by decide +kernel, by decide +kernel⟩
theorem sc_is_row : FnScope ["thing", "word", "parts", "part", "what"] ["thing"] (defScope s_is_row) := ⟨rfl, rfl, rfl, by decide +kernel, rfl, by decide +kernel, by decide +kernel⟩
theorem sc__law_forms : FnScope ["_law_found"] [] (defScope s__law_forms) := ⟨rfl, rfl, rfl, by decide +kernel, rfl, by decide +kernel, by decide +kernel⟩
theorem sc__law_lists : FnScope ["_law_sort"] ["_law_sort"] (defScope s__law_lists) := ⟨rfl, rfl, rfl, by decide +kernel, rfl, by decide +kernel, by decide +kernel⟩
theorem sc__law_part__v0 : FnScope ["_law_pool_here", "_law_sort", "_law_sign", "_law_some"] ["_law_pool_here", "_law_sort"] (defScope s__law_part__v0) := ⟨rfl, rfl, rfl, by decide +kernel, rfl, by decide +kernel, by decide +kernel⟩
theorem sc__law_part : FnScope ["_law_pool_here", "_law_sort", "_law_sign", "_law_some"] ["_law_pool_here", "_law_sort"] (defScope s__law_part) := ⟨rfl, rfl, rfl, by decide +kernel, rfl, by decide +kernel, by decide +kernel⟩
theorem sc__law_row : FnScope ["_law_pool_here", "_law_forms_here", "_law_word", "_law_sort"] ["_law_pool_here"] (defScope s__law_row) := ⟨rfl, rfl, rfl, by decide +kernel, rfl, by decide +kernel, by decide +kernel⟩
theorem sc__law_is_from : FnScope ["_law_thing", "_law_low", "_law_high"] ["_law_thing", "_law_low", "_law_high"] (defScope s__law_is_from) := ⟨rfl, rfl, rfl, by decide +kernel, rfl, by decide +kernel, by decide +kernel⟩
theorem sc__law_is_part__v0 : FnScope ["_law_sort", "_law_thing", "_law_low", "_law_high", "_law_sign"] ["_law_sort", "_law_thing"] (defScope s__law_is_part__v0) := ⟨rfl, rfl, rfl, by decide +kernel, rfl, by decide +kernel, by decide +kernel⟩
theorem sc__law_is_part : FnScope ["_law_sort", "_law_thing", "_law_low", "_law_high", "_law_sign"] ["_law_sort", "_law_thing"] (defScope s__law_is_part) := ⟨rfl, rfl, rfl, by decide +kernel, rfl, by decide +kernel, by decide +kernel⟩
theorem sc__law_is_row : FnScope ["_law_thing", "_law_forms_here", "_law_sorts", "_law_s", "_law_one"] ["_law_thing"] (defScope s__law_is_row) := ⟨rfl, rfl, rfl, by decide +kernel, rfl, by decide +kernel, by decide +kernel⟩
theorem sc_whole_in : FnScope ["text", "figures"] ["text"] (defScope s_whole_in) := ⟨rfl, rfl, rfl, by decide +kernel, rfl, by decide +kernel, by decide +kernel⟩
theorem sc__by_in : FnScope ["text"] ["text"] (defScope s__by_in) := ⟨rfl, rfl, rfl, by decide +kernel, rfl, by decide +kernel, by decide +kernel⟩
theorem sc__rights_in : FnScope ["text"] ["text"] (defScope s__rights_in) := ⟨rfl, rfl, rfl, by decide +kernel, rfl, by decide +kernel, by decide +kernel⟩
theorem sc__part_in : FnScope ["text", "what"] ["text", "what"] (defScope s__part_in) := ⟨rfl, rfl, rfl, by decide +kernel, rfl, by decide +kernel, by decide +kernel⟩
theorem sc_row_in : FnScope ["line", "words", "word", "rest", "text", "what", "parts", "row"] ["line"] (defScope s_row_in) := ⟨rfl, rfl, rfl, by decide +kernel, rfl, by decide +kernel, by decide +kernel⟩
theorem sc_read_rows : FnScope ["text", "line", "rows"] ["text"] (defScope s_read_rows) := ⟨rfl, rfl, rfl, by decide +kernel, rfl, by decide +kernel, by decide +kernel⟩
theorem sc__law_shown_part : FnScope ["_law_sort", "_law_thing"] ["_law_sort", "_law_thing"] (defScope s__law_shown_part) := ⟨rfl, rfl, rfl, by decide +kernel, rfl, by decide +kernel, by decide +kernel⟩
theorem sc__law_line : FnScope ["_law_row_here", "_law_sort", "_law_one", "_law_parts"] ["_law_row_here"] (defScope s__law_line) := ⟨rfl, rfl, rfl, by decide +kernel, rfl, by decide +kernel, by decide +kernel⟩
theorem sc__law_text : FnScope ["_law_rows", "_law_row_here"] ["_law_rows"] (defScope s__law_text) := ⟨rfl, rfl, rfl, by decide +kernel, rfl, by decide +kernel, by decide +kernel⟩
theorem sc__law_number_in : FnScope ["_law_word", "_law_digits", "_law_sign"] ["_law_word"] (defScope s__law_number_in) := ⟨rfl, rfl, rfl, by decide +kernel, rfl, by decide +kernel, by decide +kernel⟩
theorem sc__law_part_in : FnScope ["_law_sort", "_law_word"] ["_law_sort", "_law_word"] (defScope s__law_part_in) := ⟨rfl, rfl, rfl, by decide +kernel, rfl, by decide +kernel, by decide +kernel⟩
theorem sc__law_row_in : FnScope ["_law_line_here", "_law_words", "_law_sorts", "_law_sort", "_law_word", "_law_row_here"] ["_law_line_here"] (defScope s__law_row_in) := ⟨rfl, rfl, rfl, by decide +kernel, rfl, by decide +kernel, by decide +kernel⟩
theorem sc__law_due : FnScope ["_law_lines", "_law_found", "_law_at", "_law_line_here", "_law_row_here"] ["_law_lines"] (defScope s__law_due) := ⟨rfl, rfl, rfl, by decide +kernel, rfl, by decide +kernel, by decide +kernel⟩
theorem sc__law_told : FnScope ["_law_lines", "_law_error", "_law_found", "e"] ["_law_lines"] (defScope s__law_told) := ⟨rfl, rfl, rfl, by decide +kernel, rfl, by decide +kernel, by decide +kernel⟩
theorem sc__law_bent : FnScope ["_law_pool_here", "_law_here", "_law_lines", "_law_at", "_law_words", "_law_spot", "_law_odd", "_law_more", "_law_line_here", "_law_sign", "_law_place", "_law_some"] ["_law_pool_here", "_law_here"] (defScope s__law_bent) := ⟨rfl, rfl, rfl, by decide +kernel, rfl, by decide +kernel, by decide +kernel⟩
theorem sc_law : FnScope ["_law_script", "_law_many", "_law_k", "_law_pool_here", "_law_turn", "_law_here", "_law_one", "_law_some", "_law_thing"] ["_law_script"] (defScope s_law) := ⟨rfl, rfl, rfl, by decide +kernel, rfl, by decide +kernel, by decide +kernel⟩
abbrev si_NoText : Stmt := inClass (topS 3) 0
theorem sci_NoText : FnScope ["self", "number"] ["self", "number"] (defScope si_NoText) := ⟨rfl, rfl, rfl, by decide +kernel, rfl, by decide +kernel, by decide +kernel⟩
def tab_FORMS (K : PySem.W.Frag) : List (Str × (V → Prop)) := [(Str.ofString "set", fun v => ∃ q, v = V.ref q ∧ ∀ H, SqT K H q [V.str (Str.ofString "box"), V.str (Str.ofString "worth")]), (Str.ofString "move", fun v => ∃ q, v = V.ref q ∧ ∀ H, SqT K H q [V.str (Str.ofString "box"), V.str (Str.ofString "box")]), (Str.ofString "do", fun v => ∃ q, v = V.ref q ∧ ∀ H, SqT K H q [V.str (Str.ofString "doing"), V.str (Str.ofString "box"), V.str (Str.ofString "by")]), (Str.ofString "walk", fun v => ∃ q, v = V.ref q ∧ ∀ H, SqT K H q [V.str (Str.ofString "box"), V.str (Str.ofString "by")]), (Str.ofString "narrow", fun v => ∃ q, v = V.ref q ∧ ∀ H, SqT K H q [V.str (Str.ofString "box"), V.str (Str.ofString "by")]), (Str.ofString "exact", fun v => ∃ q, v = V.ref q ∧ ∀ H, SqT K H q [V.str (Str.ofString "box"), V.str (Str.ofString "by")]), (Str.ofString "less", fun v => ∃ q, v = V.ref q ∧ ∀ H, SqT K H q [V.str (Str.ofString "box"), V.str (Str.ofString "rights")]), (Str.ofString "seal", fun v => ∃ q, v = V.ref q ∧ ∀ H, SqT K H q [V.str (Str.ofString "box"), V.str (Str.ofString "box")]), (Str.ofString "open", fun v => ∃ q, v = V.ref q ∧ ∀ H, SqT K H q [V.str (Str.ofString "box"), V.str (Str.ofString "box")]), (Str.ofString "entry", fun v => ∃ q, v = V.ref q ∧ ∀ H, SqT K H q [V.str (Str.ofString "box")]), (Str.ofString "ask", fun v => ∃ q, v = V.ref q ∧ ∀ H, SqT K H q [V.str (Str.ofString "box"), V.str (Str.ofString "asked"), V.str (Str.ofString "box")]), (Str.ofString "here", fun v => ∃ q, v = V.ref q ∧ ∀ H, SqT K H q [V.str (Str.ofString "box")]), (Str.ofString "load", fun v => ∃ q, v = V.ref q ∧ ∀ H, SqT K H q [V.str (Str.ofString "box"), V.str (Str.ofString "box"), V.str (Str.ofString "offset")]), (Str.ofString "store", fun v => ∃ q, v = V.ref q ∧ ∀ H, SqT K H q [V.str (Str.ofString "box"), V.str (Str.ofString "offset"), V.str (Str.ofString "box")]), (Str.ofString "poke", fun v => ∃ q, v = V.ref q ∧ ∀ H, SqT K H q [V.str (Str.ofString "box"), V.str (Str.ofString "offset"), V.str (Str.ofString "box")]), (Str.ofString "jump", fun v => ∃ q, v = V.ref q ∧ ∀ H, SqT K H q [V.str (Str.ofString "test"), V.str (Str.ofString "box"), V.str (Str.ofString "by"), V.str (Str.ofString "to")]), (Str.ofString "go", fun v => ∃ q, v = V.ref q ∧ ∀ H, SqT K H q [V.str (Str.ofString "to")]), (Str.ofString "enter", fun v => ∃ q, v = V.ref q ∧ ∀ H, SqT K H q [V.str (Str.ofString "box")]), (Str.ofString "call", fun v => ∃ q, v = V.ref q ∧ ∀ H, SqT K H q [V.str (Str.ofString "box")]), (Str.ofString "back", fun v => ∃ q, v = V.ref q ∧ ∀ H, SqT K H q []), (Str.ofString "room", fun v => ∃ q, v = V.ref q ∧ ∀ H, SqT K H q [V.str (Str.ofString "box"), V.str (Str.ofString "by")]), (Str.ofString "give", fun v => ∃ q, v = V.ref q ∧ ∀ H, SqT K H q [V.str (Str.ofString "box")])]
def tab_NUMBERS (K : PySem.W.Frag) : List (Str × (V → Prop)) := [(Str.ofString "box", fun v => ∃ q, v = V.ref q ∧ ∀ H, SqT K H q [V.int 0, V.int 7]), (Str.ofString "worth", fun v => ∃ q, v = V.ref q ∧ ∀ H, SqT K H q [V.int 0, V.int 65535]), (Str.ofString "offset", fun v => ∃ q, v = V.ref q ∧ ∀ H, SqT K H q [V.int (-8), V.int 15]), (Str.ofString "to", fun v => ∃ q, v = V.ref q ∧ ∀ H, SqT K H q [V.int 0, V.int 4095])]
def tab_WORDS (K : PySem.W.Frag) : List (Str × (V → Prop)) := [(Str.ofString "doing", fun v => ∃ q, v = V.ref q ∧ ∀ H, SqT K H q [V.str (Str.ofString "plus"), V.str (Str.ofString "minus"), V.str (Str.ofString "times"), V.str (Str.ofString "and"), V.str (Str.ofString "or"), V.str (Str.ofString "either")]), (Str.ofString "asked", fun v => ∃ q, v = V.ref q ∧ ∀ H, SqT K H q [V.str (Str.ofString "mark"), V.str (Str.ofString "bits"), V.str (Str.ofString "at"), V.str (Str.ofString "low"), V.str (Str.ofString "high"), V.str (Str.ofString "rights"), V.str (Str.ofString "kind")]), (Str.ofString "test", fun v => ∃ q, v = V.ref q ∧ ∀ H, SqT K H q [V.str (Str.ofString "same"), V.str (Str.ofString "unlike"), V.str (Str.ofString "under"), V.str (Str.ofString "from")])]
structure Txt (K : PySem.W.Frag) (w : World) (mg : Str → Option Value) : Prop where
  z_abs : mg "abs" = none
  z_all : mg "all" = none
  z_bool : mg "bool" = none
  z_enumerate : mg "enumerate" = none
  z_int : mg "int" = none
  z_isinstance : mg "isinstance" = none
  z_len : mg "len" = none
  z_list : mg "list" = none
  z_max : mg "max" = none
  z_min : mg "min" = none
  z_range : mg "range" = none
  z_repr : mg "repr" = none
  z_sorted : mg "sorted" = none
  z_str : mg "str" = none
  z_sum : mg "sum" = none
  z_tuple : mg "tuple" = none
  z_zip : mg "zip" = none
  c_FORMS : ∃ p, mg "FORMS" = some (.ref p) ∧ KTab K w p (tab_FORMS K)
  c_MOST_FIGURES : ∃ t, mg "MOST_FIGURES" = some (.int 30 t)
  c_MOST_ROWS : ∃ t, mg "MOST_ROWS" = some (.int 64 t)
  c_NUMBERS : ∃ p, mg "NUMBERS" = some (.ref p) ∧ KTab K w p (tab_NUMBERS K)
  c_RIGHTS : ∃ t, mg "RIGHTS" = some (.str (Str.ofString "rwlsnfxco") t)
  c_WORDS : ∃ p, mg "WORDS" = some (.ref p) ∧ KTab K w p (tab_WORDS K)
  k_NoRows : ∃ C, mg "NoRows" = some (.ref C) ∧ PySem.W.nsIn K mainGlobals "NoRows" = some (some (.ref C))
  k_NoText : ∃ C, mg "NoText" = some (.ref C) ∧ PySem.W.nsIn K mainGlobals "NoText" = some (some (.ref C))
  k_ReachError : ∃ C, mg "ReachError" = some (.ref C) ∧ PySem.W.nsIn K mainGlobals "ReachError" = some (some (.ref C))
  x_NoText_ReachError : ∀ C D, PySem.W.nsIn K mainGlobals "NoText" = some (some (.ref C)) → PySem.W.nsIn K mainGlobals "ReachError" = some (some (.ref D)) → PySem.W.exmOne K (.ref C) (.ref D) = some true
  e_NoText : ∀ C, PySem.W.nsIn K mainGlobals "NoText" = some (some (.ref C)) → ErrC K C
  i_NoText_NoText : ∀ C D, PySem.W.nsIn K mainGlobals "NoText" = some (some (.ref C)) → PySem.W.nsIn K mainGlobals "NoText" = some (some (.ref D)) → PySem.W.kitOne K (.ref C) (.ref D) = some true
  i_NoText_NoRows : ∀ C D, PySem.W.nsIn K mainGlobals "NoText" = some (some (.ref C)) → PySem.W.nsIn K mainGlobals "NoRows" = some (some (.ref D)) → PySem.W.kitOne K (.ref C) (.ref D) = some false
  f_NoText_number : ∀ C, PySem.W.nsIn K mainGlobals "NoText" = some (some (.ref C)) → PySem.W.findIn K (.ref C) "number" = some none
section
variable {P : Program} {w : World} {K : PySem.W.Frag} {mg : Str → Option Value} {base : Heap}
theorem oki_NoText {f C : Addr} {fd : FuncData} (F : Fun K "__init__" "NoText.__init__" si_NoText f fd) (T : OexC K C) (hno : PySem.W.findIn K (.ref C) "number" = some none) : FnOk P w K mg base CX0 1 f fd ["self", "number"] (spErr C "number") := by
  refine F.ok sci_NoText (fun vs H Q E h => ?_) (fun cdv A outer s H vs Q E hr h => ?_)
  · obtain ⟨a, v, rfl, h1, q⟩ := h; rfl
  · obtain ⟨a, v, rfl, h1, q⟩ := h
    refine ⟨_, pss_one (ps_ost (pv 0) (pv 1)), ?_⟩
    exact ⟨_, rfl, _, rfl, a, C, rfl, T, hno, .inl ⟨h1, fun dx h2 h3 => q dx h2 h3⟩⟩

def sp__law_take (K : PySem.W.Frag) : Sp := fun vs H Q _ => ∃ (a : Addr) (x y m : Int), vs = [.ref a, .int m] ∧ Pool H a x y ∧ 0 < m ∧ m < 1073741824 ∧ ∀ r x1 y1, 0 ≤ r → r < m → Pool (upd H a (.lst [.int x1, .int y1])) a x1 y1 → Q (.int r) (upd H a (.lst [.int x1, .int y1]))
theorem ok__law_take {f : Addr} {fd : FuncData} (F : Fun K "_law_take" "_law_take" s__law_take f fd) (T : Txt K w mg) : FnOk P w K mg base CX0 1 f fd ["_law_pool_here", "_law_many"] (sp__law_take K) := by
  refine F.ok sc__law_take (fun vs H Q E h => ?_) (fun cdv A outer s H vs Q E hr h => ?_)
  · obtain ⟨a, x, y, m, rfl, hp, hm, hm2, q⟩ := h; rfl
  · obtain ⟨a, x, y, m, rfl, hp, hm, hm2, q⟩ := h
    refine ⟨_, (pss_cons (ps_if (pt_cmpR op_gt (pe_ix (r := rIxL K) ix_list (pv 0) pe_int (fun _ _ => rfl)) pe_int (nomark _)) (pss_cons (ps_set (i := 2) sc__law_take.nd rfl (.inl rfl) (pe_op op_mod (pe_ix (r := rIxL K) ix_list (pv 0) pe_int (fun _ _ => rfl)) (pv 1)))
      (pss_cons (ps_asg (pe_op op_fdiv (pe_ix (r := rIxL K) ix_list (pv 0) pe_int (fun _ _ => rfl)) (pv 1)) (pg_sub (pv 0) pe_int set_list))
      (pss_one (ps_ret (pv 2))))) pss_nil)
      (pss_cons (ps_asg (pe_op op_mod (pe_op op_add (pe_op op_mul (pe_ix (r := rIxL K) ix_list (pv 0) pe_int (fun _ _ => rfl)) pe_int) pe_int) pe_int) (pg_sub (pv 0) pe_int set_list))
      (pss_one (ps_ret (pe_op op_mod (pe_op op_fdiv (pe_op op_mod (pe_op op_mul (pe_ix (r := rIxL K) ix_list (pv 0) pe_int (fun _ _ => rfl)) (pe_ix (r := rIxL K) ix_list (pv 0) pe_int (fun _ _ => rfl))) pe_int) pe_int) (pv 1)))))), ?_⟩
    obtain ⟨hp, x0, y0, y1⟩ := hp
    refine ⟨_, rfl, a, _, 0, _, rfl, rfl, .of hp, atI_nat (j := 0) rfl, _, _, rfl, rfl, _, rfl, ifd (fun c => ?_) (fun c => ?_)⟩
    · refine ⟨_, rfl, a, _, 0, _, rfl, rfl, .of hp, atI_nat (j := 0) rfl, _, rfl, _, _, rfl, rfl, hm, ?_⟩
      refine ⟨_, rfl, a, _, 0, _, rfl, rfl, .of hp, atI_nat (j := 0) rfl, _, rfl, _, _, rfl, rfl, ⟨hm, hm2⟩, ?_⟩
      refine ⟨_, rfl, a, _, 0, 0, rfl, rfl, hp, rfl, ?_⟩
      refine ⟨_, rfl, q (x % m) (x / m) y (Int.emod_nonneg _ (by omega)) (Int.emod_lt_of_pos _ hm) ⟨upd_same, Int.ediv_nonneg x0 (by omega), y0, y1⟩⟩
    · refine ⟨_, rfl, a, _, 1, _, rfl, rfl, .of hp, atI_nat (j := 1) rfl, _, _, rfl, rfl, .inr ⟨by decide, by decide⟩, _, _, rfl, rfl, _, _, rfl, rfl, (by show (0 : Int) < _; decide), ?_⟩
      refine ⟨_, rfl, a, _, 1, 1, rfl, rfl, hp, rfl, ?_⟩
      have u1 : 0 ≤ (y * 48271 + 11) % 2147483647 := Int.emod_nonneg _ (by decide)
      have u2 : (y * 48271 + 11) % 2147483647 < 2147483647 := Int.emod_lt_of_pos _ (by decide)
      refine ⟨_, rfl, a, _, 1, _, rfl, rfl, .of upd_same, atI_nat (j := 1) rfl, _, rfl, a, _, 1, _, rfl, rfl, .of upd_same, atI_nat (j := 1) rfl, _, _, rfl, rfl, .inl ⟨by omega, by omega⟩, _, _, rfl, rfl, (by show (0 : Int) < _; decide), _, _, rfl, rfl, ⟨by decide, by decide⟩, _, rfl, _, _, rfl, rfl, hm, ?_⟩
      exact q _ x ((y * 48271 + 11) % 2147483647) (Int.emod_nonneg _ (by omega)) (Int.emod_lt_of_pos _ hm) ⟨upd_same, x0, u1, u2⟩

def sp__law_pool (K : PySem.W.Frag) : Sp := fun vs H Q _ => ∃ (a : Addr) (ns : List Int) (k : Nat), vs = [.ref a, .int k] ∧ SqL K H a (ns.map V.int) ∧ ns.length ≤ 63 ∧ k ≤ 63 ∧ ∀ x y p H', Same H H' → H p = none → Pool H' p x y → Q (.ref p) H'
theorem ok__law_pool {f : Addr} {fd : FuncData} (F : Fun K "_law_pool" "_law_pool" s__law_pool f fd) (T : Txt K w mg) : FnOk P w K mg base CX0 1 f fd ["_law_script", "_law_k"] (sp__law_pool K) := by
  refine F.ok sc__law_pool (fun vs H Q E h => ?_) (fun cdv A outer s H vs Q E hr h => ?_)
  · obtain ⟨a, ns, k, rfl, hS, hlen, hk, q⟩ := h; rfl
  · obtain ⟨a, ns, k, rfl, hS, hlen, hk, q⟩ := h
    refine ⟨_, (pss_cons (ps_set (i := 2) sc__law_pool.nd rfl (.inl rfl) (pe_op op_add (pe_op op_mul pe_int (pe_callB (cr_sum rfl) (by rfl) T.z_sum (by decide +kernel) (pa_cons (pe_slice sl_list (pv 0) po_none (po_some pe_int)) pa_nil))) (pv 1)))
      (pss_cons (ps_if (pt_cmpR op_lt (pv 1) (pe_callB call_len_seq (by rfl) T.z_len (by decide +kernel) (pa_cons (pv 0) pa_nil)) (nomark _)) (pss_one (ps_set (i := 2) sc__law_pool.nd rfl (.inl rfl) (pe_ix (r := rIxL K) ix_list (pv 0) (pv 1) (fun _ _ => rfl)))) pss_nil)
      (pss_cons (ps_set (i := 3) sc__law_pool.nd rfl (.inl rfl) (pe_callB call_abs (by rfl) T.z_abs (by decide +kernel) (pa_cons (pv 2) pa_nil)))
      (pss_cons (ps_set (i := 4) sc__law_pool.nd rfl (.inl rfl) (pe_op op_mod (pe_op op_mul (pe_op op_add (pe_op op_add (pe_op op_add (pe_op op_mod (pv 3) pe_int) (pe_op op_mul (pe_op op_mul pe_int (pv 1)) (pv 1))) (pe_op op_mul pe_int (pv 1))) pe_int) pe_int) pe_int))
      (pss_one (ps_ret (pe_lst (pa_cons (pe_op op_mul (pv 3) (pe_callTy call_int1 (by rfl) T.z_int (by decide +kernel) (pa_cons (pe_cmpR op_ge (pv 3) (pe_op op_pow pe_int pe_int) (nomark _)) pa_nil))) (pa_cons (pe_op op_mod (pe_op op_mul (pv 4) (pv 4)) pe_int) pa_nil))))))))), ?_⟩
    refine ⟨_, rfl, _, rfl, a, _, rfl, hS, fun p hp => ?_⟩
    have s1 : Same H (upd H p (.lst (cutV (ns.map V.int) none (some 63)))) := same_new hp
    have hS1 : SqL K (upd H p (.lst (cutV (ns.map V.int) none (some 63)))) a (ns.map V.int) := s1.seq hS
    refine ⟨p, ns, rfl, .of (by rw [upd_same, cut63 hlen]), _, _, rfl, rfl, .inl ⟨by decide, by decide⟩, _, rfl, _, _, rfl, rfl, ?_⟩
    refine ⟨_, rfl, _, rfl, a, _, rfl, .inl hS1, _, _, rfl, rfl, _, rfl, ifd (fun c => ?_) (fun c => ?_)⟩
    · rw [List.length_map] at c
      have hk2 : k < ns.length := by omega
      refine ⟨_, rfl, _, rfl, a, _, (k : Int), .int ns[k], rfl, rfl, hS1, atI_nat (by rw [List.getElem?_map, List.getElem?_eq_getElem hk2]; rfl), ?_⟩
      refine ⟨_, rfl, _, rfl, ?_⟩
      refine ⟨_, rfl, _, _, rfl, rfl, (by show (0 : Int) < _; decide), _, rfl, _, _, rfl, rfl, .inl ⟨by decide, by decide⟩, _, rfl, _, _, rfl, rfl, .inr ⟨by omega, by omega⟩, _, _, rfl, rfl, _, rfl, _, _, rfl, rfl, .inl ⟨by decide, by decide⟩, _, _, rfl, rfl, _, _, rfl, rfl, _, _, rfl, rfl, .inr ⟨by decide, by decide⟩, _, _, rfl, rfl, (by show (0 : Int) < _; decide), ?_⟩
      refine ⟨_, rfl, _, rfl, _, _, rfl, rfl, ⟨by decide, by decide, by decide⟩, _, _, rfl, rfl, .inr ⟨_, rfl, _, _, rfl, rfl, .inr (b01 _), ?_⟩⟩
      refine ⟨_, rfl, _, rfl, _, _, rfl, rfl, .inl (mixb _), _, _, rfl, rfl, (by show (0 : Int) < _; decide), sz (by simp), fun p2 hp2 => ?_⟩
      exact q _ _ p2 _ (sameN s1 hp2) (Same.free s1 hp2) ⟨upd_same, sizeb _ _, Int.emod_nonneg _ (by decide), Int.lt_trans (Int.emod_lt_of_pos _ (by decide)) (by decide)⟩
    · refine ⟨_, rfl, _, rfl, ?_⟩
      refine ⟨_, rfl, _, _, rfl, rfl, (by show (0 : Int) < _; decide), _, rfl, _, _, rfl, rfl, .inl ⟨by decide, by decide⟩, _, rfl, _, _, rfl, rfl, .inr ⟨by omega, by omega⟩, _, _, rfl, rfl, _, rfl, _, _, rfl, rfl, .inl ⟨by decide, by decide⟩, _, _, rfl, rfl, _, _, rfl, rfl, _, _, rfl, rfl, .inr ⟨by decide, by decide⟩, _, _, rfl, rfl, (by show (0 : Int) < _; decide), ?_⟩
      refine ⟨_, rfl, _, rfl, _, _, rfl, rfl, ⟨by decide, by decide, by decide⟩, _, _, rfl, rfl, .inr ⟨_, rfl, _, _, rfl, rfl, .inr (b01 _), ?_⟩⟩
      refine ⟨_, rfl, _, rfl, _, _, rfl, rfl, .inl (mixb _), _, _, rfl, rfl, (by show (0 : Int) < _; decide), sz (by simp), fun p2 hp2 => ?_⟩
      exact q _ _ p2 _ (sameN s1 hp2) (Same.free s1 hp2) ⟨upd_same, sizeb _ _, Int.emod_nonneg _ (by decide), Int.lt_trans (Int.emod_lt_of_pos _ (by decide)) (by decide)⟩

def sp_is_whole (K : PySem.W.Frag) : Sp := fun vs H Q _ => ∃ v l m, vs = [v, .int l, .int m] ∧ Kd H v ∧ ∀ b, (b = true ↔ ∃ n, v = .int n ∧ l ≤ n ∧ n ≤ m) → Q (.bl b) H
theorem ok_is_whole {f : Addr} {fd : FuncData} (F : Fun K "is_whole" "is_whole" s_is_whole f fd) (T : Txt K w mg) : FnOk P w K mg base CX0 1 f fd ["thing", "least", "most"] (sp_is_whole K) := by
  refine F.ok sc_is_whole (fun vs H Q E h => ?_) (fun cdv A outer s H vs Q E hr h => ?_)
  · obtain ⟨v, l, m, rfl, hv, q⟩ := h; rfl
  · obtain ⟨v, l, m, rfl, hv, q⟩ := h
    refine ⟨_, (pss_one (ps_ret (pe_and (pe_callB call_isi (by rfl) T.z_isinstance (by decide +kernel) (pa_cons (pv 0) (pa_cons (pe_bltn (v := .ty "int") (by rfl) T.z_int (by decide +kernel) rfl) pa_nil))) (pe_and (pe_not (pe_callB call_isi (by rfl) T.z_isinstance (by decide +kernel) (pa_cons (pv 0) (pa_cons (pe_bltn (v := .ty "bool") (by rfl) T.z_bool (by decide +kernel) rfl) pa_nil)))) (pe_one (pe_chain op_le op_le (pv 1) (pv 0) (pv 2))))))), ?_⟩
    obtain ⟨t, ty, kt⟩ := hv.int? (K := K)
    refine ⟨_, rfl, _, _, t, _, isI v, rfl, .ty "int", ty, kt, isI v, rfl, ifb (fun e1 => ?_) (fun e1 => ?_)⟩
    · obtain ⟨t2, ty2, kt2⟩ := hv.bool? (K := K)
      refine ⟨_, rfl, _, _, t2, _, isB v, rfl, .ty "bool", ty2, kt2, isB v, rfl, !isB v, rfl, ifnb (fun e2 => ?_) (fun e2 => ?_)⟩
      · obtain ⟨n, rfl⟩ : ∃ n, v = .int n := by
          cases hv with
          | int i => exact ⟨i, rfl⟩
          | bl b => cases e2
          | _ => cases e1
        refine ⟨_, rfl, _, rfl, _, _, rfl, rfl, _, rfl, ifd (fun h1 => ?_) (fun h1 => ?_)⟩
        · refine ⟨_, rfl, _, _, rfl, rfl, q _ ?_⟩
          rw [decide_eq_true_iff]
          exact ⟨fun h => ⟨n, rfl, h1, h⟩, fun ⟨n', e, h3, h4⟩ => by cases e; exact h4⟩
        · refine q _ ⟨fun h => Bool.noConfusion h, fun ⟨n', e, h3, h4⟩ => by cases e; exact absurd h3 h1⟩
      · refine q _ ⟨fun h => Bool.noConfusion h, fun ⟨n', e, h3, h4⟩ => by cases e; cases e2⟩
    · refine q _ ⟨fun h => Bool.noConfusion h, fun ⟨n', e, h3, h4⟩ => by cases e; cases e1⟩

def sp_is_rights (K : PySem.W.Frag) : Sp := fun vs H Q _ => ∃ v, vs = [v] ∧ Kd H v ∧ ∀ b H', Same H H' → (b = true ↔ ∃ r, v = .str r ∧ r = rtx (hasR r)) → Q (.bl b) H'
theorem ok_is_rights {f : Addr} {fd : FuncData} (F : Fun K "is_rights" "is_rights" s_is_rights f fd) (T : Txt K w mg) : FnOk P w K mg base CX0 1 f fd ["thing"] (sp_is_rights K) := by
  obtain ⟨t_RIGHTS, hc_RIGHTS⟩ := T.c_RIGHTS
  refine F.ok sc_is_rights (fun vs H Q E h => ?_) (fun cdv A outer s H vs Q E hr h => ?_)
  · obtain ⟨v, rfl, hv, q⟩ := h; rfl
  · obtain ⟨v, rfl, hv, q⟩ := h
    refine ⟨_, (pss_one (ps_ret (pe_and (pe_callB call_isi (by rfl) T.z_isinstance (by decide +kernel) (pa_cons (pv 0) (pa_cons (pe_bltn (v := .ty "str") (by rfl) T.z_str (by decide +kernel) rfl) pa_nil))) (pe_one (pe_cmpR op_eq (pv 0) (pe_join pe_str (pe_lc (own := [("sign", 1)]) rfl sc_is_rights.nd (pi_str (pe_glob (v := .str (Str.ofString "rwlsnfxco")) (by rfl) hc_RIGHTS ⟨_, rfl⟩)) (blkOk_by (own := [("sign", 1)]) (N := ["thing", "sign"]) (sc := defScope s_is_rights) (by decide +kernel)) (fun _ _ _ _ _ => (pg_name (i := 1) sc_is_rights.nd rfl (.inl rfl))) (fun _ _ _ _ _ => (pts_one (pt_cmpR op_in_sign (pv 1) (pv 0) (by rfl)))) (fun _ _ _ _ _ => (pv 1)))) (nomark _)))))), ?_⟩
    obtain ⟨t, ty, kt⟩ := hv.str? (K := K)
    refine ⟨_, rfl, _, _, t, _, isS v, rfl, .ty "str", ty, kt, isS v, rfl, ifb (fun e1 => ?_) (fun e1 => ?_)⟩
    · obtain ⟨r, rfl⟩ : ∃ r, v = .str r := by
        cases hv with
        | str r => exact ⟨r, rfl⟩
        | _ => cases e1
      refine ⟨_, rfl, ⟨_, rfl⟩, RT, rfl, fun D hD => ?_⟩
      refine lc_it (walk_str (z := RT)) (fun i H' => Same H H' ∧ H' D = some (.lst ((rcs (hasR r) i).map V.str))) ⟨same_new hD, upd_same⟩ (fun _ _ _ _ => trivial) ?_ ?_
      · rintro i x H1 H2 hi ⟨sm, hl⟩ ⟨rfl, c, hc, rfl⟩
        rw [RT_size] at hi
        rw [RT_get i hi] at hc
        have ec : c = code i := (Option.some.inj hc).symm
        subst ec
        refine ⟨rfl, ?_⟩
        refine ⟨_, rfl, _, rfl, code i, r, rfl, rfl, _, rfl, ifb (fun e => ?_) (fun e => ?_)⟩
        · refine ⟨_, rfl, _, hl, ?_, ?_, ?_⟩
          · rw [List.length_map]
            have := rcs_len (hasR r) i
            exact szn (by omega)
          · exact fun b o e => by
              have n : b ≠ D := ne_of_none e hD
              rw [upd_ne n]; exact sm b o e
          · rw [upd_same, rcs_succ, List.map_append, if_pos (show hasR r i = true from e)]; rfl
        · refine ⟨sm, ?_⟩
          rw [rcs_succ, if_neg (by unfold hasR; rw [e]; exact Bool.false_ne_true), List.append_nil]
          exact hl
      · rintro H1 ⟨sm, hl⟩
        rw [RT_size] at hl
        refine ⟨_, D, _, rfl, rfl, .inl (.of hl), rcs_fit _, rfl, q _ _ sm ?_⟩
        rw [decide_eq_true_iff]
        exact ⟨fun h => ⟨r, rfl, V.str.inj h⟩, fun ⟨r', e, h⟩ => by cases e; exact congrArg V.str h⟩
    · refine q _ _ (Same.refl _) ⟨fun h => Bool.noConfusion h, fun ⟨r', e, h⟩ => by cases e; cases e1⟩

def tupR (K : PySem.W.Frag) (xs : List V) : V → Prop := fun v => ∃ q, v = V.ref q ∧ ∀ H, SqT K H q xs
theorem forms_look (K : PySem.W.Frag) (z : Str) : look (tab_FORMS K) z = (look formsK z).map fun ks => tupR K (ks.map fun k => V.str k.nm) := by
  rw [← look_map]
  rfl
def numOf : Kind → Option (Int × Int)
  | .box => some (0, 7)
  | .worth => some (0, 65535)
  | .offset => some (-8, 15)
  | .to => some (0, 4095)
  | _ => none
theorem nums_look (K : PySem.W.Frag) (k : Kind) : look (tab_NUMBERS K) k.nm = (numOf k).map fun p => tupR K [V.int p.1, V.int p.2] := by
  cases k <;> (unfold tab_NUMBERS Kind.nm numOf; walk_at "look")
theorem words_look (K : PySem.W.Frag) (k : Kind) : look (tab_WORDS K) k.nm = if worded k = true then some (tupR K ((wordsOf k).map V.str)) else none := by
  cases k <;> (unfold tab_WORDS Kind.nm worded; walk_at "look")
theorem part_num {k : Kind} {l m : Int} (h : numOf k = some (l, m)) (d : PyData) : partD k d = wholeD d l m := by
  cases k <;> first | (cases h; rfl) | (cases h)

def sp__is_part__v0 (K : PySem.W.Frag) : Sp := fun vs H Q _ => ∃ v d k, vs = [v, .str (Kind.nm k)] ∧ (k = .box ∨ k = .worth) ∧ Dx H v d ∧ Q (.bl (partD k d)) H
theorem ok__is_part__v0 {f : Addr} {fd : FuncData} (F : Fun K "_is_part" "_is_part" s__is_part__v0 f fd) (T : Txt K w mg) (C_is_whole : Cal P w K mg base "is_whole" 1 ["thing", "least", "most"] (sp_is_whole K)) : FnOk P w K mg base CX0 2 f fd ["thing", "what"] (sp__is_part__v0 K) := by
  obtain ⟨p_NUMBERS, hc_NUMBERS, hs_NUMBERS⟩ := T.c_NUMBERS
  obtain ⟨p_WORDS, hc_WORDS, hs_WORDS⟩ := T.c_WORDS
  refine F.ok sc__is_part__v0 (fun vs H Q E h => ?_) (fun cdv A outer s H vs Q E hr h => ?_)
  · obtain ⟨v, d, k, rfl, hk, hd, q⟩ := h; rfl
  · obtain ⟨v, d, k, rfl, hk, hd, q⟩ := h
    refine ⟨_, (pss_cons (ps_if (pt_cmpR (r := rInTab K w) op_inTab (pv 1) (pe_glob (v := .ref p_NUMBERS) (by rfl) hc_NUMBERS rfl) (by rfl)) (pss_cons (ps_asg (pe_ix (r := rIxD K w) ix_kdict (pe_glob (v := .ref p_NUMBERS) (by rfl) hc_NUMBERS rfl) (pv 1) (fun _ _ => rfl)) (pg_tup rfl (pgs_cons (pg_name (i := 2) sc__is_part__v0.nd rfl (.inl rfl)) (pgs_cons (pg_name (i := 3) sc__is_part__v0.nd rfl (.inl rfl)) pgs_nil))))
      (pss_one (ps_ret (pe_cal C_is_whole (hr.mono (by decide)) (pa_cons (pv 0) (pa_cons (pv 2) (pa_cons (pv 3) pa_nil))))))) pss_nil)
      (pss_cons (ps_if (pt_cmpR (r := rInTab K w) op_inTab (pv 1) (pe_glob (v := .ref p_WORDS) (by rfl) hc_WORDS rfl) (by rfl)) (pss_one (ps_ret (pe_and (pe_callB call_isi (by rfl) T.z_isinstance (by decide +kernel) (pa_cons (pv 0) (pa_cons (pe_bltn (v := .ty "str") (by rfl) T.z_str (by decide +kernel) rfl) pa_nil))) (pe_one (pe_cmpR (r := rIn K false) op_in_seq (pv 0) (pe_ix (r := rIxD K w) ix_kdict (pe_glob (v := .ref p_WORDS) (by rfl) hc_WORDS rfl) (pv 1) (fun _ _ => rfl)) (by rfl)))))) pss_nil)
      (pss_cons (ps_if (pt_cmpR op_eq (pv 1) pe_str (nomark _)) (pss_one ps_never) pss_nil)
      (pss_one ps_never)))), ?_⟩
    obtain ⟨l, m, hn⟩ : ∃ l m, numOf k = some (l, m) := by rcases hk with rfl | rfl <;> exact ⟨_, _, rfl⟩
    have e := nums_look K k
    rw [hn] at e
    obtain ⟨v0, kd, q0, rfl, sq⟩ := hs_NUMBERS.dct e
    refine ⟨_, rfl, _, _, _, rfl, rfl, hs_NUMBERS, _, rfl, ifbT (by rw [e]; rfl) ?_⟩
    refine ⟨_, rfl, p_NUMBERS, _, _, rfl, rfl, kd, q0, _, rfl, sq _, rfl, _, _, rfl, _, _, rfl, rfl, ?_⟩
    refine ⟨_, rfl, _, rfl, _, rfl, v, l, m, rfl, hd.kd, fun b hb => ?_⟩
    rw [bool_of hb (whole_iff hd l m), ← part_num hn d]
    exact q

def sp__is_by (K : PySem.W.Frag) : Sp := fun vs H Q _ => ∃ v d, vs = [v] ∧ Dx H v d ∧ ∀ H', Same H H' → Q (.bl (byD d)) H'
theorem ok__is_by {f : Addr} {fd : FuncData} (F : Fun K "_is_by" "_is_by" s__is_by f fd) (T : Txt K w mg) (C__is_part__v0 : Cal P w K mg base "_is_part" 2 ["thing", "what"] (sp__is_part__v0 K)) : FnOk P w K mg base CX0 3 f fd ["thing"] (sp__is_by K) := by
  refine F.ok sc__is_by (fun vs H Q E h => ?_) (fun cdv A outer s H vs Q E hr h => ?_)
  · obtain ⟨v, d, rfl, hd, q⟩ := h; rfl
  · obtain ⟨v, d, rfl, hd, q⟩ := h
    refine ⟨_, (pss_cons (ps_if (PW.pt (pw_or (pt_not (pt_val (pe_callB call_isi (by rfl) T.z_isinstance (by decide +kernel) (pa_cons (pv 0) (pa_cons (pe_bltn (v := .ty "tuple") (by rfl) T.z_tuple (by decide +kernel) rfl) pa_nil))))) (pw_or1 (pt_cmpR op_ne (pe_callB call_len_seq (by rfl) T.z_len (by decide +kernel) (pa_cons (pv 0) pa_nil)) pe_int (nomark _))))) (pss_one (ps_ret pe_bl)) pss_nil)
      (pss_cons (ps_asg (pv 0) (pg_tup rfl (pgs_cons (pg_name (i := 1) sc__is_by.nd rfl (.inl rfl)) (pgs_cons (pg_name (i := 2) sc__is_by.nd rfl (.inl rfl)) pgs_nil))))
      (pss_one (ps_ret (pe_and (pe_callB call_isi (by rfl) T.z_isinstance (by decide +kernel) (pa_cons (pv 1) (pa_cons (pe_bltn (v := .ty "str") (by rfl) T.z_str (by decide +kernel) rfl) pa_nil))) (pe_and (pe_cmpR (r := rIn K false) op_in_seq (pv 1) (pe_tup (pa_cons pe_str (pa_cons pe_str pa_nil))) (by rfl)) (pe_one (pe_cal C__is_part__v0 (hr.mono (by decide)) (pa_cons (pv 2) (pa_cons (pv 1) pa_nil)))))))))), ?_⟩
    obtain ⟨t, ty, kt⟩ := hd.tup? (K := K)
    refine ⟨_, rfl, _, _, t, _, dTup d, rfl, .ty "tuple", ty, kt, dTup d, rfl, ifnb (fun c => ?_) (fun c => ?_)⟩
    · refine q _ (Same.refl _) |> fun z => ?_
      have e : byD d = false := by cases d <;> first | rfl | cases c
      rw [e] at z
      exact z
    obtain ⟨ds, rfl⟩ : ∃ ds, d = .tuple ds := by cases d <;> first | exact ⟨_, rfl⟩ | cases c
    obtain ⟨p, xs, rfl, hp, hx⟩ := hd.tup_of
    refine ⟨_, rfl, p, _, rfl, .inr (.of hp), rfl, _, rfl, ifnd (fun c2 => ?_) (fun c2 => ?_)⟩
    · have e : byD (.tuple ds) = false := byD_len fun e => c2 (by rw [← hx.length] at e; exact congrArg (fun n : Nat => V.int n) e)
      have z := q _ (Same.refl _)
      rw [e] at z
      exact z
    have l2 : xs.length = 2 := by
      have := V.int.inj c2
      omega
    obtain ⟨x1, x2, rfl⟩ : ∃ x1 x2, xs = [x1, x2] := match xs, l2 with
      | [a, b], _ => ⟨a, b, rfl⟩
    obtain ⟨d1, d2, rfl, h1, h2⟩ : ∃ d1 d2, ds = [d1, d2] ∧ Dx H x1 d1 ∧ Dx H x2 d2 := by
      cases hx with
      | cons a r => cases r with
        | cons b r => cases r; exact ⟨_, _, rfl, a, b⟩
    refine ⟨_, rfl, p, _, rfl, .of hp, rfl, _, _, rfl, _, _, rfl, rfl, ?_⟩
    obtain ⟨t1, ty1, kt1⟩ := h1.str? (K := K)
    refine ⟨_, rfl, _, _, t1, _, dStr d1, rfl, .ty "str", ty1, kt1, dStr d1, rfl, ifb (fun c3 => ?_) (fun c3 => ?_)⟩
    · obtain ⟨w, rfl⟩ : ∃ w, d1 = .str w := by cases d1 <;> first | exact ⟨_, rfl⟩ | cases c3
      cases h1.str_of
      refine ⟨_, rfl, sz (by simp), fun tp htp => ⟨tp, _, rfl, .inr (.of upd_same), rfl, rfl, ?_⟩⟩
      have iv : inV (.str w) [V.str (Str.ofString "box"), .str (Str.ofString "worth")] = decide (w ∈ [Kind.box.nm, Kind.worth.nm]) := inV_strs w [Kind.box.nm, Kind.worth.nm]
      have sm := same_new (o := .tup [V.str (Str.ofString "box"), .str (Str.ofString "worth")]) htp
      refine ⟨_, rfl, ifb (fun c4 => ?_) (fun c4 => ?_)⟩
      · have c5 : w = Kind.box.nm ∨ w = Kind.worth.nm := by
          replace c4 : inV (.str w) [V.str (Str.ofString "box"), .str (Str.ofString "worth")] = true := c4
          rw [iv] at c4
          simpa using c4
        rcases c5 with rfl | rfl
        · refine ⟨_, rfl, _, rfl, x2, d2, .box, rfl, .inl rfl, h2.same sm, q _ sm⟩
        · refine ⟨_, rfl, _, rfl, x2, d2, .worth, rfl, .inr rfl, h2.same sm, ?_⟩
          have z := q _ sm
          have e : byD (.tuple [.str Kind.worth.nm, d2]) = partD .worth d2 := by
            show (if Kind.worth.nm = Kind.box.nm then wholeD d2 0 7 else if Kind.worth.nm = Kind.worth.nm then wholeD d2 0 65535 else false) = _
            rw [if_neg (by decide +kernel), if_pos rfl]; rfl
          rw [e] at z
          exact z
      · replace c4 : inV (.str w) [V.str (Str.ofString "box"), .str (Str.ofString "worth")] = false := c4
        rw [iv] at c4
        have c5 := of_decide_eq_false c4
        have z := q _ sm
        have e : byD (.tuple [.str w, d2]) = false := by
          show (if w = Kind.box.nm then wholeD d2 0 7 else if w = Kind.worth.nm then wholeD d2 0 65535 else false) = _
          rw [if_neg fun h => c5 (by rw [h]; simp), if_neg fun h => c5 (by rw [h]; simp)]
        rw [e] at z
        exact z
    · have z := q _ (Same.refl _)
      have e : byD (.tuple [d1, d2]) = false := by cases d1 <;> first | rfl | cases c3
      rw [e] at z
      exact z

def sp__is_part (K : PySem.W.Frag) : Sp := fun vs H Q _ => ∃ v d k, vs = [v, .str (Kind.nm k)] ∧ Dx H v d ∧ ∀ H', Same H H' → Q (.bl (partD k d)) H'
theorem ok__is_part {f : Addr} {fd : FuncData} (F : Fun K "_is_part" "_is_part" s__is_part f fd) (T : Txt K w mg) (C_is_whole : Cal P w K mg base "is_whole" 1 ["thing", "least", "most"] (sp_is_whole K)) (C_is_rights : Cal P w K mg base "is_rights" 1 ["thing"] (sp_is_rights K)) (C__is_by : Cal P w K mg base "_is_by" 3 ["thing"] (sp__is_by K)) : FnOk P w K mg base CX0 4 f fd ["thing", "what"] (sp__is_part K) := by
  obtain ⟨p_NUMBERS, hc_NUMBERS, hs_NUMBERS⟩ := T.c_NUMBERS
  obtain ⟨p_WORDS, hc_WORDS, hs_WORDS⟩ := T.c_WORDS
  refine F.ok sc__is_part (fun vs H Q E h => ?_) (fun cdv A outer s H vs Q E hr h => ?_)
  · obtain ⟨v, d, k, rfl, hd, q⟩ := h; rfl
  · obtain ⟨v, d, k, rfl, hd, q⟩ := h
    refine ⟨_, (pss_cons (ps_if (pt_cmpR (r := rInTab K w) op_inTab (pv 1) (pe_glob (v := .ref p_NUMBERS) (by rfl) hc_NUMBERS rfl) (by rfl)) (pss_cons (ps_asg (pe_ix (r := rIxD K w) ix_kdict (pe_glob (v := .ref p_NUMBERS) (by rfl) hc_NUMBERS rfl) (pv 1) (fun _ _ => rfl)) (pg_tup rfl (pgs_cons (pg_name (i := 2) sc__is_part.nd rfl (.inl rfl)) (pgs_cons (pg_name (i := 3) sc__is_part.nd rfl (.inl rfl)) pgs_nil))))
      (pss_one (ps_ret (pe_cal C_is_whole (hr.mono (by decide)) (pa_cons (pv 0) (pa_cons (pv 2) (pa_cons (pv 3) pa_nil))))))) pss_nil)
      (pss_cons (ps_if (pt_cmpR (r := rInTab K w) op_inTab (pv 1) (pe_glob (v := .ref p_WORDS) (by rfl) hc_WORDS rfl) (by rfl)) (pss_one (ps_ret (pe_and (pe_callB call_isi (by rfl) T.z_isinstance (by decide +kernel) (pa_cons (pv 0) (pa_cons (pe_bltn (v := .ty "str") (by rfl) T.z_str (by decide +kernel) rfl) pa_nil))) (pe_one (pe_cmpR (r := rIn K false) op_in_seq (pv 0) (pe_ix (r := rIxD K w) ix_kdict (pe_glob (v := .ref p_WORDS) (by rfl) hc_WORDS rfl) (pv 1) (fun _ _ => rfl)) (by rfl)))))) pss_nil)
      (pss_cons (ps_if (pt_cmpR op_eq (pv 1) pe_str (nomark _)) (pss_one (ps_ret (pe_cal C_is_rights (hr.mono (by decide)) (pa_cons (pv 0) pa_nil)))) pss_nil)
      (pss_one (ps_ret (pe_cal C__is_by (hr.mono (by decide)) (pa_cons (pv 0) pa_nil))))))), ?_⟩
    cases hn : numOf k with
    | some lm =>
      obtain ⟨l, m⟩ := lm
      have e := nums_look K k
      rw [hn] at e
      obtain ⟨v0, kd, q0, rfl, sq⟩ := hs_NUMBERS.dct e
      refine ⟨_, rfl, _, _, _, rfl, rfl, hs_NUMBERS, _, rfl, ifbT (by rw [e]; rfl) ?_⟩
      refine ⟨_, rfl, p_NUMBERS, _, _, rfl, rfl, kd, q0, _, rfl, sq _, rfl, _, _, rfl, _, _, rfl, rfl, ?_⟩
      refine ⟨_, rfl, _, rfl, _, rfl, v, l, m, rfl, hd.kd, fun b hb => ?_⟩
      rw [bool_of hb (whole_iff hd l m), ← part_num hn d]
      exact q _ (Same.refl _)
    | none =>
      have e := nums_look K k
      rw [hn] at e
      refine ⟨_, rfl, _, _, _, rfl, rfl, hs_NUMBERS, _, rfl, ifbF (by rw [e]; rfl) ?_⟩
      have e2 := words_look K k
      cases hw : worded k with
      | true =>
        rw [if_pos hw] at e2
        obtain ⟨v0, kd, q0, rfl, sq⟩ := hs_WORDS.dct e2
        have ep : ∀ d, partD k d = oneOf (wordsOf k) d := by intro d; cases k <;> first | rfl | cases hw
        refine ⟨_, rfl, _, _, _, rfl, rfl, hs_WORDS, _, rfl, ifbT (by rw [e2]; rfl) ?_⟩
        obtain ⟨t, ty, kt⟩ := hd.str? (K := K)
        refine ⟨_, rfl, _, _, t, _, dStr d, rfl, .ty "str", ty, kt, dStr d, rfl, ifb (fun c => ?_) (fun c => ?_)⟩
        · obtain ⟨w, rfl⟩ : ∃ w, d = .str w := by cases d <;> first | exact ⟨_, rfl⟩ | cases c
          cases hd.str_of
          refine ⟨_, rfl, _, rfl, p_WORDS, _, _, rfl, rfl, kd, q0, _, rfl, .inr (sq _), rfl, ?_, ?_⟩
          · rw [List.all_map]; exact List.all_eq_true.mpr fun _ _ => rfl
          have z := q _ (Same.refl _)
          rw [ep] at z
          have iv := inV_strs w (wordsOf k)
          show Q (.bl (inV (.str w) ((wordsOf k).map V.str))) H
          rw [iv]
          exact z
        · have z := q _ (Same.refl _)
          have e3 : partD k d = false := by rw [ep]; cases d <;> first | rfl | cases c
          rw [e3] at z
          exact z
      | false =>
        rw [if_neg (by rw [hw]; exact Bool.false_ne_true)] at e2
        refine ⟨_, rfl, _, _, _, rfl, rfl, hs_WORDS, _, rfl, ifbF (by rw [e2]; rfl) ?_⟩
        by_cases kr : k = .rights
        · subst kr
          refine ⟨_, rfl, rfl, _, rfl, ifd (fun _ => ?_) (fun c => absurd rfl c)⟩
          refine ⟨_, rfl, v, rfl, hd.kd, fun b H' s' hb => ?_⟩
          have e3 : b = partD .rights d := bool_of hb (by
            cases hd with
            | str r => show decide _ = true ↔ _; rw [decide_eq_true_iff]; exact ⟨fun h => ⟨r, rfl, h⟩, fun ⟨r', e, h⟩ => by cases e; exact h⟩
            | _ => exact ⟨fun h => Bool.noConfusion h, fun ⟨_, e, _⟩ => nomatch e⟩)
          rw [e3]
          exact q _ s'
        · have kb : k = .by_ := by cases k <;> first | rfl | (exact absurd rfl kr) | (cases hn; done) | (cases hw; done)
          subst kb
          refine ⟨_, rfl, rfl, _, rfl, ifd (fun c => absurd (V.str.inj c) (by decide +kernel)) (fun _ => ?_)⟩
          exact ⟨_, rfl, v, d, rfl, hd, fun H' s' => q H' s'⟩

def sp_is_row (K : PySem.W.Frag) : Sp := fun vs H Q _ => ∃ v d, vs = [v] ∧ Dx H v d ∧ ∀ H', Same H H' → Q (.bl (rowD d)) H'
theorem ok_is_row {f : Addr} {fd : FuncData} (F : Fun K "is_row" "is_row" s_is_row f fd) (T : Txt K w mg) (C__is_part : Cal P w K mg base "_is_part" 4 ["thing", "what"] (sp__is_part K)) : FnOk P w K mg base CX0 5 f fd ["thing"] (sp_is_row K) := by
  obtain ⟨p_FORMS, hc_FORMS, hs_FORMS⟩ := T.c_FORMS
  refine F.ok sc_is_row (fun vs H Q E h => ?_) (fun cdv A outer s H vs Q E hr h => ?_)
  · obtain ⟨v, d, rfl, hd, q⟩ := h; rfl
  · obtain ⟨v, d, rfl, hd, q⟩ := h
    refine ⟨_, (pss_cons (ps_if (PW.pt (pw_or (pt_not (pt_val (pe_callB call_isi (by rfl) T.z_isinstance (by decide +kernel) (pa_cons (pv 0) (pa_cons (pe_bltn (v := .ty "tuple") (by rfl) T.z_tuple (by decide +kernel) rfl) pa_nil))))) (pw_or1 (pt_cmpR op_eq (pe_callB call_len_seq (by rfl) T.z_len (by decide +kernel) (pa_cons (pv 0) pa_nil)) pe_int (nomark _))))) (pss_one (ps_ret pe_bl)) pss_nil)
      (pss_cons (ps_asg (pv 0) (pg_tupS (n := 2) (i := 1) rfl (pgs_cons (pg_name (i := 1) sc_is_row.nd rfl (.inl rfl)) (pgs_star (pg_name (i := 2) sc_is_row.nd rfl (.inl rfl)) pgs_nil))))
      (pss_cons (ps_if (PW.pt (pw_or (pt_not (pt_val (pe_callB call_isi (by rfl) T.z_isinstance (by decide +kernel) (pa_cons (pv 1) (pa_cons (pe_bltn (v := .ty "str") (by rfl) T.z_str (by decide +kernel) rfl) pa_nil))))) (pw_or (pt_cmpR (r := rNotInTab K w) op_notInTab (pv 1) (pe_glob (v := .ref p_FORMS) (by rfl) hc_FORMS rfl) (by rfl)) (pw_or1 (pt_cmpR op_ne (pe_callB call_len_seq (by rfl) T.z_len (by decide +kernel) (pa_cons (pv 2) pa_nil)) (pe_callB call_len_seq (by rfl) T.z_len (by decide +kernel) (pa_cons (pe_ix (r := rIxD K w) ix_kdict (pe_glob (v := .ref p_FORMS) (by rfl) hc_FORMS rfl) (pv 1) (fun _ _ => rfl)) pa_nil)) (nomark _)))))) (pss_one (ps_ret pe_bl)) pss_nil)
      (pss_one (ps_ret (pe_callB (cr_all rfl) (by rfl) T.z_all (by decide +kernel) (pa_cons (pe_lc (own := [("part", 3), ("what", 4)]) (g := gTup K 2 (gCons (gName 3) (gCons (gName 4) gNil))) rfl sc_is_row.nd (pi_zipG (k1 := .l) (k2 := .t) (by rfl) T.z_zip (pa_cons (pv 2) (pa_cons (pe_ix (r := rIxD K w) ix_kdict (pe_glob (v := .ref p_FORMS) (by rfl) hc_FORMS rfl) (pv 1) (fun _ _ => rfl)) pa_nil))) (blkOk_by (own := [("part", 3), ("what", 4)]) (N := ["thing", "word", "parts", "part", "what"]) (sc := defScope s_is_row) (by decide +kernel)) (fun _ _ _ _ _ => by exact (pg_tup rfl (pgs_cons (pg_name (i := 3) sc_is_row.nd rfl (.inl rfl)) (pgs_cons (pg_name (i := 4) sc_is_row.nd rfl (.inl rfl)) pgs_nil)))) (fun _ _ _ _ _ => pts_nil) (fun _ _ _ _ _ => (pe_cal C__is_part (hr.mono (by decide)) (pa_cons (pv 3) (pa_cons (pv 4) pa_nil))))) pa_nil))))))), ?_⟩
    obtain ⟨t, ty, kt⟩ := hd.tup? (K := K)
    refine ⟨_, rfl, _, _, t, _, dTup d, rfl, .ty "tuple", ty, kt, dTup d, rfl, ifnb (fun c => ?_) (fun c => ?_)⟩
    · have z := q _ (Same.refl _)
      have e : rowD d = false := by cases d <;> first | rfl | cases c
      rw [e] at z
      exact z
    obtain ⟨ds, rfl⟩ : ∃ ds, d = .tuple ds := by cases d <;> first | exact ⟨_, rfl⟩ | cases c
    obtain ⟨p, xs, rfl, hp, hx⟩ := hd.tup_of
    refine ⟨_, rfl, p, _, rfl, .inr (.of hp), rfl, _, rfl, ifd (fun c2 => ?_) (fun c2 => ?_)⟩
    · have l0 : xs.length = 0 := by
        have := V.int.inj c2
        omega
      have e : ds = [] := List.eq_nil_of_length_eq_zero (by rw [← hx.length]; exact l0)
      subst e
      exact q _ (Same.refl _)
    obtain ⟨x1, xr, d1, dr, rfl, rfl, h1, hr'⟩ : ∃ x1 xr d1 dr, xs = x1 :: xr ∧ ds = d1 :: dr ∧ Dx H x1 d1 ∧ DxAll H xr dr := by
      cases hx with
      | nil => exact absurd rfl c2
      | cons a r => exact ⟨_, _, _, _, rfl, rfl, a, r⟩
    refine ⟨_, rfl, p, _, rfl, .inl (.of hp), by decide, ?_, fun P hP => ?_⟩
    · show 2 ≤ (x1 :: xr).length + 1
      rw [List.length_cons]; omega
    have sm := same_new (o := .lst xr) hP
    have fP : (upd H P (.lst xr)) P = some (.lst xr) := upd_same
    have e1 : xr.take ((x1 :: xr).length + 1 - 2) = xr := by
      rw [List.length_cons]; exact List.take_of_length_le (by omega)
    have e2 : xr.drop ((x1 :: xr).length + 1 - 2) = [] := by
      rw [List.length_cons]; exact List.drop_of_length_le (by omega)
    show (gCons _ _) ([x1] ++ [V.ref P] ++ xr.drop ((x1 :: xr).length + 1 - 2)) _ (upd H P (.lst (xr.take ((x1 :: xr).length + 1 - 2)))) _
    rw [e1, e2]
    refine ⟨_, _, rfl, _, _, rfl, rfl, ?_⟩
    obtain ⟨t1, ty1, kt1⟩ := (h1.same sm).str? (K := K)
    refine ⟨_, rfl, _, _, t1, _, dStr d1, rfl, .ty "str", ty1, kt1, dStr d1, rfl, ifnb (fun c3 => ?_) (fun c3 => ?_)⟩
    · have z := q _ sm
      have e : rowD (.tuple (d1 :: dr)) = false := by cases d1 <;> first | rfl | cases c3
      rw [e] at z
      exact z
    obtain ⟨w', rfl⟩ : ∃ w, d1 = .str w := by cases d1 <;> first | exact ⟨_, rfl⟩ | cases c3
    cases h1.str_of
    have fl := forms_look K w'
    have er : rowD (.tuple (.str w' :: dr)) = (match look formsK w' with
        | some ks => partsD ks dr
        | none => false) := rfl
    refine ⟨_, rfl, _, _, _, rfl, rfl, hs_FORMS, _, rfl, ?_⟩
    cases hl : look formsK w' with
    | none =>
      rw [hl] at fl er
      refine ifbT (by rw [fl]; rfl) ?_
      have z := q _ sm
      rw [er] at z
      exact z
    | some ks =>
      rw [hl] at fl er
      replace er : rowD (.tuple (.str w' :: dr)) = partsD ks dr := er
      have k4 := forms_len hl
      refine ifbF (by rw [fl]; rfl) ?_
      obtain ⟨v0, kd, q0, rfl, sq⟩ := hs_FORMS.dct fl
      refine ⟨_, rfl, P, _, rfl, .inl (.of fP), _, rfl, p_FORMS, _, _, rfl, rfl, kd, q0, _, rfl, .inr (sq _), ?_⟩
      refine ⟨rfl, _, rfl, ifnd (fun c4 => ?_) (fun c4 => ?_)⟩
      · have z := q _ sm
        have e : partsD ks dr = false := by
          cases h : partsD ks dr with
          | false => rfl
          | true => exact absurd (by rw [List.length_map, hr'.length, partsD_len h]) c4
        rw [er, e] at z
        exact z
      have el : dr.length = ks.length := by
        have := V.int.inj c4
        rw [List.length_map, hr'.length] at this
        omega
      have fin := q
      rw [er, partsD_all el] at fin
      have hr2 := hr'.same sm
      generalize upd H P _ = G at sm fP hr2 ⊢
      refine ⟨_, rfl, _, rfl, p_FORMS, _, _, rfl, rfl, kd, .ref P, .ref q0, xr, _, rfl, .of fP, sq _, fun D hD => ?_⟩
      have elx : xr.length = ks.length := by rw [hr'.length, el]
      refine lc_it (walk_zipG (K := K) (k1 := .l) (k2 := .t) (v1 := .ref P) (v2 := .ref q0) (n := ks.length) (xs := xr) (ys := ks.map fun k : Kind => V.str (Kind.nm k)) (by rw [List.length_map, elx, Nat.min_self])) (fun i H' => Same G H' ∧ H' D = some (.lst ((((ks.zip dr).map fun p => partD p.1 p.2).take i).map V.bl))) ⟨same_new hD, upd_same⟩ (fun i H' _ h => ⟨SqL.of (h.1 _ _ fP), sq H'⟩) ?_ ?_
      · rintro i x H3 H4 hi ⟨sm2, hl2⟩ ⟨Tp, y1, y2, rfl, hn, rfl, hy1, hy2⟩
        have nD : D ≠ Tp := ne_of_none hl2 hn
        obtain ⟨di, hdi, hxi⟩ := hr2.at hy1
        obtain ⟨k, hk, rfl⟩ : ∃ k, ks[i]? = some k ∧ y2 = V.str k.nm := by
          replace hy2 : (ks.map fun k : Kind => V.str (Kind.nm k))[i]? = some y2 := hy2
          rw [List.getElem?_map] at hy2
          cases e : ks[i]? with
          | none => rw [e] at hy2; cases hy2
          | some k => rw [e] at hy2; exact ⟨k, rfl, (Option.some.inj hy2).symm⟩
        have tk : ((ks.zip dr).map fun p => partD p.1 p.2).take (i + 1) = ((ks.zip dr).map fun p => partD p.1 p.2).take i ++ [partD k di] := by
          rw [List.take_add_one]
          congr 1
          rw [List.getElem?_map, (List.getElem?_zip_eq_some (z := (k, di))).mpr ⟨hk, hdi⟩]; rfl
        refine ⟨Tp, _, rfl, .of upd_same, rfl, _, _, rfl, _, _, rfl, rfl, rfl, ?_⟩
        refine ⟨_, rfl, _, rfl, y1, di, k, rfl, (hxi.same sm2).same (same_new hn), fun H5 s5 => ?_⟩
        have h5 : H5 D = some (.lst ((((ks.zip dr).map fun p => partD p.1 p.2).take i).map V.bl)) := s5 _ _ (by rw [upd_ne nD]; exact hl2)
        refine ⟨_, h5, ?_, ?_, ?_⟩
        · rw [List.length_map, List.length_take]
          exact szn (Nat.lt_of_le_of_lt (Nat.min_le_left _ _) (by omega))
        · exact fun b o e => by
            have n : b ≠ D := ne_of_none e hD
            rw [upd_ne n]
            exact s5 _ _ (same_new hn _ _ (sm2 b o e))
        · rw [upd_same, tk, List.map_append]; rfl
      · rintro H3 ⟨sm2, hl2⟩
        rw [List.take_of_length_le (by rw [List.length_map, List.length_zip, el, Nat.min_self]; exact Nat.le_refl _)] at hl2
        refine ⟨D, _, rfl, .of hl2, fin _ (sm.trans sm2)⟩

def sp__law_forms (K : PySem.W.Frag) : Sp := fun vs H Q _ => vs = [] ∧ ∀ p H', Same H H' → H p = none → H' p = some (.dK formsV) → Q (.ref p) H'
theorem ok__law_forms {f : Addr} {fd : FuncData} (F : Fun K "_law_forms" "_law_forms" s__law_forms f fd) (T : Txt K w mg) : FnOk P w K mg base CX0 1 f fd [] (sp__law_forms K) := by
  refine F.ok sc__law_forms (fun vs H Q E h => ?_) (fun cdv A outer s H vs Q E hr h => ?_)
  · obtain ⟨rfl, q⟩ := h; rfl
  · obtain ⟨rfl, q⟩ := h
    refine ⟨_, (pss_cons (ps_set (i := 0) sc__law_forms.nd rfl (.inl rfl) (pe_disp (pps_cons pe_str pe_str (pps_cons pe_str pe_str (pps_cons pe_str pe_str (pps_cons pe_str pe_str (pps_cons pe_str pe_str (pps_cons pe_str pe_str (pps_cons pe_str pe_str pps_nil))))))) (by rfl) (by rfl) (fun z => by cases z) (by decide)))
      (pss_cons (ps_expr (pe_bm PySem.F.plainAttrs_dict PySem.F.slot_dict_update PySem.F.type_dict_update mt_update (pv 0) (pa_cons (pe_disp (pps_cons pe_str pe_str (pps_cons pe_str pe_str (pps_cons pe_str pe_str (pps_cons pe_str pe_str (pps_cons pe_str pe_str (pps_cons pe_str pe_str (pps_cons pe_str pe_str pps_nil))))))) (by rfl) (by rfl) (fun z => by cases z) (by decide)) pa_nil)))
      (pss_cons (ps_expr (pe_bm PySem.F.plainAttrs_dict PySem.F.slot_dict_update PySem.F.type_dict_update mt_update (pv 0) (pa_cons (pe_disp (pps_cons pe_str pe_str (pps_cons pe_str pe_str (pps_cons pe_str pe_str (pps_cons pe_str pe_str (pps_cons pe_str pe_str (pps_cons pe_str pe_str (pps_cons pe_str pe_str pps_nil))))))) (by rfl) (by rfl) (fun z => by cases z) (by decide)) pa_nil)))
      (pss_cons (ps_dput (hu_of hr) (pv 0) pe_str pe_str rfl)
      (pss_one (ps_ret (pv 0))))))), ?_⟩
    refine fun p hp => ⟨upd_same, fA, rfl, by decide, ?_⟩
    rw [mA]
    refine ⟨_, rfl, .inr (.inr (.inl ⟨rfl, .inl ⟨_, upd_same⟩⟩)), ?_⟩
    rw [upd_upd]
    have S1 := same_new (o := .dK fA) hp
    have e1 : (upd H p (.dK fA)) p = some (.dK fA) := upd_same
    have B1 : Same H (upd H p (.dK fA)) := S1
    generalize upd H p _ = G1 at S1 e1 B1 ⊢
    refine fun p2 hp2 => ⟨upd_same, fB, rfl, by decide, ?_⟩
    rw [mB, upd_upd]
    have n2 : p ≠ p2 := ne_of_none e1 hp2
    refine ⟨p, p2, fA, fB, rfl, rfl, by rw [upd_ne n2]; exact e1, upd_same, n2, by decide, ?_⟩
    rw [mAB]
    have e2 : (upd (upd G1 p2 (.dK fB)) p (.dK (fA ++ fB))) p = some (.dK (fA ++ fB)) := upd_same
    have S2 : Same H (upd (upd G1 p2 (.dK fB)) p (.dK (fA ++ fB))) := fun b o e => by
      rw [upd_ne (ne_of_none e hp), upd_ne (ne_of_none (S1 _ _ e) hp2)]; exact S1 _ _ e
    generalize upd (upd G1 p2 _) p _ = G2 at e2 S2 ⊢
    refine ⟨_, rfl, .inr (.inr (.inl ⟨rfl, .inl ⟨_, e2⟩⟩)), ?_⟩
    refine fun p3 hp3 => ⟨upd_same, fC, rfl, by decide, ?_⟩
    rw [mC, upd_upd]
    have n3 : p ≠ p3 := ne_of_none e2 hp3
    refine ⟨p, p3, fA ++ fB, fC, rfl, rfl, by rw [upd_ne n3]; exact e2, upd_same, n3, by decide, ?_⟩
    rw [mABC]
    have e3 : (upd (upd G2 p3 (.dK fC)) p (.dK (fA ++ fB ++ fC))) p = some (.dK (fA ++ fB ++ fC)) := upd_same
    have S3 : Same H (upd (upd G2 p3 (.dK fC)) p (.dK (fA ++ fB ++ fC))) := fun b o e => by
      rw [upd_ne (ne_of_none e hp), upd_ne (ne_of_none (S2 _ _ e) hp3)]; exact S2 _ _ e
    generalize upd (upd G2 p3 _) p _ = G3 at e3 S3 ⊢
    refine ⟨_, rfl, p, _, rfl, DPut.k (k := Sum.inr (Str.ofString "give")) e3 (szn (by decide)), ?_⟩
    rw [mD]
    have S4 : Same H (upd G3 p (.dK formsV)) := fun b o e => by
      rw [upd_ne (ne_of_none e hp)]; exact S3 _ _ e
    exact ⟨_, rfl, q p _ S4 hp upd_same⟩

def sp__law_lists (K : PySem.W.Frag) : Sp := fun vs H Q _ => ∃ k, vs = [.str (one (Kind.sg k))] ∧ worded k = true ∧ ∀ p, H p = none → Q (.ref p) (upd H p (.lst ((wordsOf k).map V.str)))
theorem ok__law_lists {f : Addr} {fd : FuncData} (F : Fun K "_law_lists" "_law_lists" s__law_lists f fd) (T : Txt K w mg) : FnOk P w K mg base CX0 1 f fd ["_law_sort"] (sp__law_lists K) := by
  refine F.ok sc__law_lists (fun vs H Q E h => ?_) (fun cdv A outer s H vs Q E hr h => ?_)
  · obtain ⟨k, rfl, hk, q⟩ := h; rfl
  · obtain ⟨k, rfl, hk, q⟩ := h
    refine ⟨_, (pss_cons (ps_if (pt_cmpR op_eq (pv 0) pe_str (nomark _)) (pss_one (ps_ret (pe_lst (pa_cons pe_str (pa_cons pe_str (pa_cons pe_str (pa_cons pe_str (pa_cons pe_str (pa_cons pe_str pa_nil))))))))) pss_nil)
      (pss_cons (ps_if (pt_cmpR op_eq (pv 0) pe_str (nomark _)) (pss_one (ps_ret (pe_lst (pa_cons pe_str (pa_cons pe_str (pa_cons pe_str (pa_cons pe_str pa_nil))))))) pss_nil)
      (pss_one (ps_ret (pe_lst (pa_cons pe_str (pa_cons pe_str (pa_cons pe_str (pa_cons pe_str (pa_cons pe_str (pa_cons pe_str (pa_cons pe_str pa_nil)))))))))))), ?_⟩
    obtain ⟨e1, e2, e3, e4, e5, e6, e7, e8, e9⟩ := sg_one
    cases k with
    | doing =>
      refine ⟨_, rfl, rfl, _, rfl, ifd (fun _ => ?_) (fun c => absurd (congrArg V.str e7) c)⟩
      exact ⟨by decide, fun p hp => q p hp⟩
    | test =>
      refine ⟨_, rfl, rfl, _, rfl, ifd (fun c => absurd (Eq.trans c (congrArg V.str e7.symm)) (sg_ne (a := 106) (b := 100) (by decide))) (fun _ => ?_)⟩
      refine ⟨_, rfl, rfl, _, rfl, ifd (fun _ => ?_) (fun c => absurd (congrArg V.str e9) c)⟩
      exact ⟨by decide, fun p hp => q p hp⟩
    | asked =>
      refine ⟨_, rfl, rfl, _, rfl, ifd (fun c => absurd (Eq.trans c (congrArg V.str e7.symm)) (sg_ne (a := 107) (b := 100) (by decide))) (fun _ => ?_)⟩
      refine ⟨_, rfl, rfl, _, rfl, ifd (fun c => absurd (Eq.trans c (congrArg V.str e9.symm)) (sg_ne (a := 107) (b := 106) (by decide))) (fun _ => ?_)⟩
      exact ⟨by decide, fun p hp => q p hp⟩
    | _ => cases hk

def sp__law_part__v0 (K : PySem.W.Frag) : Sp := fun vs H Q _ => ∃ (a : Addr) (x y : Int), vs = [.ref a, .str (one 110)] ∧ Pool H a x y ∧ ∀ (i : Int) x1 y1 H', 0 ≤ i → i ≤ 65535 → But a H H' → Pool H' a x1 y1 → Q (.int i) H'
theorem ok__law_part__v0 {f : Addr} {fd : FuncData} (F : Fun K "_law_part" "_law_part" s__law_part__v0 f fd) (T : Txt K w mg) (C__law_take : Cal P w K mg base "_law_take" 1 ["_law_pool_here", "_law_many"] (sp__law_take K)) (C__law_lists : Cal P w K mg base "_law_lists" 1 ["_law_sort"] (sp__law_lists K)) : FnOk P w K mg base CX0 2 f fd ["_law_pool_here", "_law_sort"] (sp__law_part__v0 K) := by
  refine F.ok sc__law_part__v0 (fun vs H Q E h => ?_) (fun cdv A outer s H vs Q E hr h => ?_)
  · obtain ⟨a, x, y, rfl, hP, q⟩ := h; rfl
  · obtain ⟨a, x, y, rfl, hP, q⟩ := h
    refine ⟨_, (pss_cons (ps_if (pt_cmpR op_eq (pv 1) pe_str (nomark _)) (pss_one (ps_ret (pe_cal C__law_take (hr.mono (by decide)) (pa_cons (pv 0) (pa_cons pe_int pa_nil))))) pss_nil)
      (pss_cons (ps_if (pt_cmpR op_eq (pv 1) pe_str (nomark _)) (pss_one (ps_ret (pe_ix (r := rIxL K) ix_list (pe_lst (pa_cons (pe_cal C__law_take (hr.mono (by decide)) (pa_cons (pv 0) (pa_cons pe_int pa_nil))) (pa_cons (pe_cal C__law_take (hr.mono (by decide)) (pa_cons (pv 0) (pa_cons pe_int pa_nil))) (pa_cons pe_int pa_nil)))) (pe_cal C__law_take (hr.mono (by decide)) (pa_cons (pv 0) (pa_cons pe_int pa_nil))) (fun _ _ => rfl)))) pss_nil)
      (pss_cons (ps_if (pt_cmpR op_eq (pv 1) pe_str (nomark _)) (pss_one (ps_ret (pe_op op_sub (pe_cal C__law_take (hr.mono (by decide)) (pa_cons (pv 0) (pa_cons pe_int pa_nil))) pe_int))) pss_nil)
      (pss_cons (ps_if (pt_cmpR op_eq (pv 1) pe_str (nomark _)) (pss_one (ps_ret (pe_ix (r := rIxL K) ix_list (pe_lst (pa_cons (pe_cal C__law_take (hr.mono (by decide)) (pa_cons (pv 0) (pa_cons pe_int pa_nil))) (pa_cons (pe_cal C__law_take (hr.mono (by decide)) (pa_cons (pv 0) (pa_cons pe_int pa_nil))) (pa_cons pe_int pa_nil)))) (pe_cal C__law_take (hr.mono (by decide)) (pa_cons (pv 0) (pa_cons pe_int pa_nil))) (fun _ _ => rfl)))) pss_nil)
      (pss_cons (ps_if (pt_cmpR op_eq (pv 1) pe_str (nomark _)) (pss_one ps_never) pss_nil)
      (pss_cons (ps_if (pt_cmpR op_eq (pv 1) pe_str (nomark _)) (pss_one (ps_ret (pe_join pe_str (pe_lc (own := [("_law_sign", 2)]) rfl sc__law_part__v0.nd (pi_str pe_str) (blkOk_by (own := [("_law_sign", 2)]) (N := ["_law_pool_here", "_law_sort", "_law_sign", "_law_some"]) (sc := defScope s__law_part__v0) (by decide +kernel)) (fun _ _ _ _ _ => (pg_name (i := 2) sc__law_part__v0.nd rfl (.inl rfl))) (fun _ _ _ _ _ => (pts_one (pt_cmpR op_eq (pe_cal C__law_take (hr.mono (by decide)) (pa_cons (pv 0) (pa_cons pe_int pa_nil))) pe_int (nomark _)))) (fun _ _ _ _ _ => (pv 2)))))) pss_nil)
      (pss_cons (ps_set (i := 3) sc__law_part__v0.nd rfl (.inl rfl) (pe_cal C__law_lists (hr.mono (by decide)) (pa_cons (pv 1) pa_nil)))
      (pss_one (ps_ret (pe_ix (r := rIxL K) ix_list (pv 3) (pe_cal C__law_take (hr.mono (by decide)) (pa_cons (pv 0) (pa_cons (pe_callB call_len_seq (by rfl) T.z_len (by decide +kernel) (pa_cons (pv 3) pa_nil)) pa_nil))) (fun _ _ => rfl))))))))))), ?_⟩
    obtain ⟨e1, e2, e3, e4, e5, e6, e7, e8, e9⟩ := sg_one
    refine ⟨_, rfl, rfl, _, rfl, ifd (fun c => absurd (Eq.trans c (congrArg V.str e1.symm)) (sg_ne (a := 110) (b := 98) (by decide))) (fun _ => ?_)⟩
    refine ⟨_, rfl, rfl, _, rfl, ifd (fun _ => ?_) (fun c => absurd (congrArg V.str e2) c)⟩
    refine ⟨_, rfl, a, x, y, _, rfl, hP, by decide, by decide, fun r1 x1 y1 r10 r11 P1 => ?_⟩
    refine ⟨_, rfl, a, x1, y1, _, rfl, P1, by decide, by decide, fun r2 x2 y2 r20 r21 P2 => ⟨sz (by simp), fun L hL => ?_⟩⟩
    refine ⟨_, rfl, a, x2, y2, _, rfl, P2.new hL, by decide, by decide, fun r3 x3 y3 r30 r31 P3 => ?_⟩
    have nL : L ≠ a := (ne_of_none P2.1 hL).symm
    obtain ⟨lv, hv, z, rfl, z0, z1⟩ := pick (xs := [.int r1, .int r2, .int 65535]) (fun v => ∃ z, v = .int z ∧ 0 ≤ z ∧ z ≤ 65535) r30 r31 (lcons ⟨_, rfl, by omega, by omega⟩ (lcons ⟨_, rfl, by omega, by omega⟩ (lcons ⟨_, rfl, by omega, by omega⟩ lnil)))
    refine ⟨L, _, r3, _, rfl, rfl, .of (by rw [upd_ne nL, upd_same]), hv, ?_⟩
    have B3 := But.upd (o := .lst [.int x3, .int y3]) (But.new (o := .lst [.int r1, .int r2, .int 65535]) (((But.refl a H).upd (o := .lst [.int x1, .int y1])).upd (o := .lst [.int x2, .int y2])) hL)
    exact q z x3 y3 _ z0 z1 B3 P3

def sp__law_part (K : PySem.W.Frag) : Sp := fun vs H Q _ => ∃ (a : Addr) (x y : Int) (k : Kind), vs = [.ref a, .str (one (Kind.sg k))] ∧ Pool H a x y ∧ ∀ v d x1 y1 H', But a H H' → Pool H' a x1 y1 → Dx (news H H') v d → partD k d = true → Nice 30 1 d → Q v H'
theorem ok__law_part {f : Addr} {fd : FuncData} (F : Fun K "_law_part" "_law_part" s__law_part f fd) (T : Txt K w mg) (C__law_take : Cal P w K mg base "_law_take" 1 ["_law_pool_here", "_law_many"] (sp__law_take K)) (C__law_lists : Cal P w K mg base "_law_lists" 1 ["_law_sort"] (sp__law_lists K)) (C__law_part__v0 : Cal P w K mg base "_law_part" 2 ["_law_pool_here", "_law_sort"] (sp__law_part__v0 K)) : FnOk P w K mg base CX0 3 f fd ["_law_pool_here", "_law_sort"] (sp__law_part K) := by
  refine F.ok sc__law_part (fun vs H Q E h => ?_) (fun cdv A outer s H vs Q E hr h => ?_)
  · obtain ⟨a, x, y, k, rfl, hP, q⟩ := h; rfl
  · obtain ⟨a, x, y, k, rfl, hP, q⟩ := h
    refine ⟨_, (pss_cons (ps_if (pt_cmpR op_eq (pv 1) pe_str (nomark _)) (pss_one (ps_ret (pe_cal C__law_take (hr.mono (by decide)) (pa_cons (pv 0) (pa_cons pe_int pa_nil))))) pss_nil)
      (pss_cons (ps_if (pt_cmpR op_eq (pv 1) pe_str (nomark _)) (pss_one (ps_ret (pe_ix (r := rIxL K) ix_list (pe_lst (pa_cons (pe_cal C__law_take (hr.mono (by decide)) (pa_cons (pv 0) (pa_cons pe_int pa_nil))) (pa_cons (pe_cal C__law_take (hr.mono (by decide)) (pa_cons (pv 0) (pa_cons pe_int pa_nil))) (pa_cons pe_int pa_nil)))) (pe_cal C__law_take (hr.mono (by decide)) (pa_cons (pv 0) (pa_cons pe_int pa_nil))) (fun _ _ => rfl)))) pss_nil)
      (pss_cons (ps_if (pt_cmpR op_eq (pv 1) pe_str (nomark _)) (pss_one (ps_ret (pe_op op_sub (pe_cal C__law_take (hr.mono (by decide)) (pa_cons (pv 0) (pa_cons pe_int pa_nil))) pe_int))) pss_nil)
      (pss_cons (ps_if (pt_cmpR op_eq (pv 1) pe_str (nomark _)) (pss_one (ps_ret (pe_ix (r := rIxL K) ix_list (pe_lst (pa_cons (pe_cal C__law_take (hr.mono (by decide)) (pa_cons (pv 0) (pa_cons pe_int pa_nil))) (pa_cons (pe_cal C__law_take (hr.mono (by decide)) (pa_cons (pv 0) (pa_cons pe_int pa_nil))) (pa_cons pe_int pa_nil)))) (pe_cal C__law_take (hr.mono (by decide)) (pa_cons (pv 0) (pa_cons pe_int pa_nil))) (fun _ _ => rfl)))) pss_nil)
      (pss_cons (ps_if (pt_cmpR op_eq (pv 1) pe_str (nomark _)) (pss_one (ps_ret (pe_ix (r := rIxL K) ix_list (pe_lst (pa_cons (pe_tup (pa_cons pe_str (pa_cons (pe_cal C__law_take (hr.mono (by decide)) (pa_cons (pv 0) (pa_cons pe_int pa_nil))) pa_nil))) (pa_cons (pe_tup (pa_cons pe_str (pa_cons (pe_cal C__law_part__v0 (hr.mono (by decide)) (pa_cons (pv 0) (pa_cons pe_str pa_nil))) pa_nil))) pa_nil))) (pe_cal C__law_take (hr.mono (by decide)) (pa_cons (pv 0) (pa_cons pe_int pa_nil))) (fun _ _ => rfl)))) pss_nil)
      (pss_cons (ps_if (pt_cmpR op_eq (pv 1) pe_str (nomark _)) (pss_one (ps_ret (pe_join pe_str (pe_lc (own := [("_law_sign", 2)]) rfl sc__law_part.nd (pi_str pe_str) (blkOk_by (own := [("_law_sign", 2)]) (N := ["_law_pool_here", "_law_sort", "_law_sign", "_law_some"]) (sc := defScope s__law_part) (by decide +kernel)) (fun _ _ _ _ _ => (pg_name (i := 2) sc__law_part.nd rfl (.inl rfl))) (fun _ _ _ _ _ => (pts_one (pt_cmpR op_eq (pe_cal C__law_take (hr.mono (by decide)) (pa_cons (pv 0) (pa_cons pe_int pa_nil))) pe_int (nomark _)))) (fun _ _ _ _ _ => (pv 2)))))) pss_nil)
      (pss_cons (ps_set (i := 3) sc__law_part.nd rfl (.inl rfl) (pe_cal C__law_lists (hr.mono (by decide)) (pa_cons (pv 1) pa_nil)))
      (pss_one (ps_ret (pe_ix (r := rIxL K) ix_list (pv 3) (pe_cal C__law_take (hr.mono (by decide)) (pa_cons (pv 0) (pa_cons (pe_callB call_len_seq (by rfl) T.z_len (by decide +kernel) (pa_cons (pv 3) pa_nil)) pa_nil))) (fun _ _ => rfl))))))))))), ?_⟩
    obtain ⟨e1, e2, e3, e4, e5, e6, e7, e8, e9⟩ := sg_one
    cases k with
    | box =>
      refine ⟨_, rfl, rfl, _, rfl, ifd (fun _ => ?_) (fun c => absurd (congrArg V.str e1) c)⟩
      refine ⟨_, rfl, a, x, y, _, rfl, hP, by decide, by decide, fun r1 x1 y1 r10 r11 P1 => ?_⟩
      exact q (.int (r1)) (.int (r1)) x1 y1 _ ((But.refl a H).upd) P1 (.int _) (decide_eq_true ⟨by omega, by omega⟩) ((nice_int (m := 17) (k := 1) (by omega) (by decide)).mono (by decide) (Nat.le_refl _))
    | worth =>
      refine ⟨_, rfl, rfl, _, rfl, ifd (fun c => absurd (Eq.trans c (congrArg V.str e1.symm)) (sg_ne (a := 110) (b := 98) (by decide))) (fun _ => ?_)⟩
      refine ⟨_, rfl, rfl, _, rfl, ifd (fun _ => ?_) (fun c => absurd (congrArg V.str e2) c)⟩
      refine ⟨_, rfl, a, x, y, _, rfl, hP, by decide, by decide, fun r1 x1 y1 r10 r11 P1 => ?_⟩
      refine ⟨_, rfl, a, x1, y1, _, rfl, P1, by decide, by decide, fun r2 x2 y2 r20 r21 P2 => ⟨sz (by simp), fun L hL => ?_⟩⟩
      refine ⟨_, rfl, a, x2, y2, _, rfl, P2.new hL, by decide, by decide, fun r3 x3 y3 r30 r31 P3 => ?_⟩
      have nL : L ≠ a := (ne_of_none P2.1 hL).symm
      obtain ⟨lv, hv, z, rfl, z0, z1⟩ := pick (xs := [.int r1, .int r2, .int 65535]) (fun v => ∃ z, v = .int z ∧ 0 ≤ z ∧ z ≤ 65535) r30 r31 (lcons ⟨_, rfl, by omega, by omega⟩ (lcons ⟨_, rfl, by omega, by omega⟩ (lcons ⟨_, rfl, by omega, by omega⟩ lnil)))
      refine ⟨L, _, r3, _, rfl, rfl, .of (by rw [upd_ne nL, upd_same]), hv, ?_⟩
      have B3 := But.upd (o := .lst [.int x3, .int y3]) (But.new (o := .lst [.int r1, .int r2, .int 65535]) (((But.refl a H).upd (o := .lst [.int x1, .int y1])).upd (o := .lst [.int x2, .int y2])) hL)
      exact q (.int (z)) (.int (z)) x3 y3 _ B3 P3 (.int _) (decide_eq_true ⟨by omega, by omega⟩) ((nice_int (m := 17) (k := 1) (by omega) (by decide)).mono (by decide) (Nat.le_refl _))
    | offset =>
      refine ⟨_, rfl, rfl, _, rfl, ifd (fun c => absurd (Eq.trans c (congrArg V.str e1.symm)) (sg_ne (a := 111) (b := 98) (by decide))) (fun _ => ?_)⟩
      refine ⟨_, rfl, rfl, _, rfl, ifd (fun c => absurd (Eq.trans c (congrArg V.str e2.symm)) (sg_ne (a := 111) (b := 110) (by decide))) (fun _ => ?_)⟩
      refine ⟨_, rfl, rfl, _, rfl, ifd (fun _ => ?_) (fun c => absurd (congrArg V.str e3) c)⟩
      refine ⟨_, rfl, a, x, y, _, rfl, hP, by decide, by decide, fun r1 x1 y1 r10 r11 P1 => ⟨_, _, rfl, rfl, ?_⟩⟩
      exact q (.int (r1 - 8)) (.int (r1 - 8)) x1 y1 _ ((But.refl a H).upd) P1 (.int _) (decide_eq_true ⟨by omega, by omega⟩) ((nice_int (m := 17) (k := 1) (by omega) (by decide)).mono (by decide) (Nat.le_refl _))
    | to =>
      refine ⟨_, rfl, rfl, _, rfl, ifd (fun c => absurd (Eq.trans c (congrArg V.str e1.symm)) (sg_ne (a := 116) (b := 98) (by decide))) (fun _ => ?_)⟩
      refine ⟨_, rfl, rfl, _, rfl, ifd (fun c => absurd (Eq.trans c (congrArg V.str e2.symm)) (sg_ne (a := 116) (b := 110) (by decide))) (fun _ => ?_)⟩
      refine ⟨_, rfl, rfl, _, rfl, ifd (fun c => absurd (Eq.trans c (congrArg V.str e3.symm)) (sg_ne (a := 116) (b := 111) (by decide))) (fun _ => ?_)⟩
      refine ⟨_, rfl, rfl, _, rfl, ifd (fun _ => ?_) (fun c => absurd (congrArg V.str e4) c)⟩
      refine ⟨_, rfl, a, x, y, _, rfl, hP, by decide, by decide, fun r1 x1 y1 r10 r11 P1 => ?_⟩
      refine ⟨_, rfl, a, x1, y1, _, rfl, P1, by decide, by decide, fun r2 x2 y2 r20 r21 P2 => ⟨sz (by simp), fun L hL => ?_⟩⟩
      refine ⟨_, rfl, a, x2, y2, _, rfl, P2.new hL, by decide, by decide, fun r3 x3 y3 r30 r31 P3 => ?_⟩
      have nL : L ≠ a := (ne_of_none P2.1 hL).symm
      obtain ⟨lv, hv, z, rfl, z0, z1⟩ := pick (xs := [.int r1, .int r2, .int 4095]) (fun v => ∃ z, v = .int z ∧ 0 ≤ z ∧ z ≤ 4095) r30 r31 (lcons ⟨_, rfl, by omega, by omega⟩ (lcons ⟨_, rfl, by omega, by omega⟩ (lcons ⟨_, rfl, by omega, by omega⟩ lnil)))
      refine ⟨L, _, r3, _, rfl, rfl, .of (by rw [upd_ne nL, upd_same]), hv, ?_⟩
      have B3 := But.upd (o := .lst [.int x3, .int y3]) (But.new (o := .lst [.int r1, .int r2, .int 4095]) (((But.refl a H).upd (o := .lst [.int x1, .int y1])).upd (o := .lst [.int x2, .int y2])) hL)
      exact q (.int (z)) (.int (z)) x3 y3 _ B3 P3 (.int _) (decide_eq_true ⟨by omega, by omega⟩) ((nice_int (m := 17) (k := 1) (by omega) (by decide)).mono (by decide) (Nat.le_refl _))
    | by_ =>
      refine ⟨_, rfl, rfl, _, rfl, ifd (fun c => absurd (Eq.trans c (congrArg V.str e1.symm)) (sg_ne (a := 121) (b := 98) (by decide))) (fun _ => ?_)⟩
      refine ⟨_, rfl, rfl, _, rfl, ifd (fun c => absurd (Eq.trans c (congrArg V.str e2.symm)) (sg_ne (a := 121) (b := 110) (by decide))) (fun _ => ?_)⟩
      refine ⟨_, rfl, rfl, _, rfl, ifd (fun c => absurd (Eq.trans c (congrArg V.str e3.symm)) (sg_ne (a := 121) (b := 111) (by decide))) (fun _ => ?_)⟩
      refine ⟨_, rfl, rfl, _, rfl, ifd (fun c => absurd (Eq.trans c (congrArg V.str e4.symm)) (sg_ne (a := 121) (b := 116) (by decide))) (fun _ => ?_)⟩
      refine ⟨_, rfl, rfl, _, rfl, ifd (fun _ => ?_) (fun c => absurd (congrArg V.str e5) c)⟩
      refine ⟨_, rfl, a, x, y, _, rfl, hP, by decide, by decide, fun r1 x1 y1 r10 r11 P1 => ⟨sz (by simp), fun t1 ht1 => ?_⟩⟩
      have B1 := ((But.refl a H).upd (o := .lst [.int x1, .int y1])).new (o := .tup [V.str (Str.ofString "box"), .int r1]) ht1
      have nt1 : t1 ≠ a := (ne_of_none P1.1 ht1).symm
      have h1 : H t1 = none := ((But.refl a H).upd (o := .lst [.int x1, .int y1])).fre P1.1 ht1
      have e1' : (upd (upd H a (.lst [.int x1, .int y1])) t1 (.tup [V.str (Str.ofString "box"), .int r1])) t1 = some (.tup [V.str (Str.ofString "box"), .int r1]) := upd_same
      replace P1 := P1.new (o := .tup [V.str (Str.ofString "box"), .int r1]) ht1
      generalize upd (upd H a _) t1 _ = H1 at B1 P1 e1' ⊢
      refine ⟨_, rfl, a, x1, y1, ?_, P1, fun r2 x2 y2 H2 r20 r21 B2 P2 => ⟨sz (by simp), fun t2 ht2 => ?_⟩⟩
      · show [V.ref a, V.str (Str.ofString "n")] = _
        rw [e2]
      have nt2 : t2 ≠ a := (ne_of_none P2.1 ht2).symm
      have B12 := B1.trans B2
      have h2 : H t2 = none := B12.fre P2.1 ht2
      have e12 := B2 _ _ nt1 e1'
      have S2 := same_new (o := .tup [V.str (Str.ofString "worth"), .int r2]) ht2
      have e2' : (upd H2 t2 (.tup [V.str (Str.ofString "worth"), .int r2])) t2 = some (.tup [V.str (Str.ofString "worth"), .int r2]) := upd_same
      have e13 := S2 _ _ e12
      replace P2 := P2.new (o := .tup [V.str (Str.ofString "worth"), .int r2]) ht2
      have B3 := B12.trans (But.of S2)
      generalize upd H2 t2 _ = H3 at S2 e2' e13 P2 B3 ⊢
      refine ⟨sz (by simp), fun L hL => ?_⟩
      refine ⟨_, rfl, a, x2, y2, _, rfl, P2.new hL, by decide, by decide, fun r3 x3 y3 r30 r31 P3 => ?_⟩
      have nL : L ≠ a := (ne_of_none P2.1 hL).symm
      have B4 := (B3.new (o := .lst [V.ref t1, .ref t2]) hL).upd (o := .lst [.int x3, .int y3])
      have SL := same_new (o := .lst [V.ref t1, .ref t2]) hL
      have g1 := (But.refl a (upd H3 L (.lst [V.ref t1, .ref t2]))).upd (o := .lst [.int x3, .int y3]) _ _ nt1 (SL _ _ e13)
      have g2 := (But.refl a (upd H3 L (.lst [V.ref t1, .ref t2]))).upd (o := .lst [.int x3, .int y3]) _ _ nt2 (SL _ _ e2')
      obtain ⟨lv, hv, d, dd, ok, nc⟩ := pick (xs := [V.ref t1, .ref t2]) (fun v => ∃ d, Dx (news H (upd (upd H3 L (.lst [V.ref t1, .ref t2])) a (.lst [.int x3, .int y3]))) v d ∧ partD .by_ d = true ∧ Nice 30 1 d) r30 r31
        (lcons ⟨.tuple [.str Kind.box.nm, .int r1], .tup (news_at h1 g1) (.cons (.str _) (.cons (.int _) .nil)), decide_eq_true ⟨by omega, by omega⟩, (NiceAll.cons (nice_lit (by decide +kernel) : Nice 5 0 (.str Kind.box.nm)) (NiceAll.cons (nice_int (m := 17) (by omega) (by decide)) .nil (m := 0))).tuple.mono (by decide) (by decide)⟩
        (lcons ⟨.tuple [.str Kind.worth.nm, .int r2], .tup (news_at h2 g2) (.cons (.str _) (.cons (.int _) .nil)), by
          show (if Kind.worth.nm = Kind.box.nm then wholeD (.int r2) 0 7 else if Kind.worth.nm = Kind.worth.nm then wholeD (.int r2) 0 65535 else false) = true
          rw [if_neg (by decide +kernel), if_pos rfl]
          exact decide_eq_true ⟨by omega, by omega⟩, (NiceAll.cons (nice_lit (by decide +kernel) : Nice 5 0 (.str Kind.worth.nm)) (NiceAll.cons (nice_int (m := 17) (by omega) (by decide)) .nil (m := 0))).tuple.mono (by decide) (by decide)⟩ lnil))
      refine ⟨L, _, r3, _, rfl, rfl, .of (by rw [upd_ne nL, upd_same]), hv, ?_⟩
      exact q lv d x3 y3 _ B4 P3 dd ok nc
    | rights =>
      refine ⟨_, rfl, rfl, _, rfl, ifd (fun c => absurd (Eq.trans c (congrArg V.str e1.symm)) (sg_ne (a := 114) (b := 98) (by decide))) (fun _ => ?_)⟩
      refine ⟨_, rfl, rfl, _, rfl, ifd (fun c => absurd (Eq.trans c (congrArg V.str e2.symm)) (sg_ne (a := 114) (b := 110) (by decide))) (fun _ => ?_)⟩
      refine ⟨_, rfl, rfl, _, rfl, ifd (fun c => absurd (Eq.trans c (congrArg V.str e3.symm)) (sg_ne (a := 114) (b := 111) (by decide))) (fun _ => ?_)⟩
      refine ⟨_, rfl, rfl, _, rfl, ifd (fun c => absurd (Eq.trans c (congrArg V.str e4.symm)) (sg_ne (a := 114) (b := 116) (by decide))) (fun _ => ?_)⟩
      refine ⟨_, rfl, rfl, _, rfl, ifd (fun c => absurd (Eq.trans c (congrArg V.str e5.symm)) (sg_ne (a := 114) (b := 121) (by decide))) (fun _ => ?_)⟩
      refine ⟨_, rfl, rfl, _, rfl, ifd (fun _ => ?_) (fun c => absurd (congrArg V.str e6) c)⟩
      refine ⟨⟨_, rfl⟩, RT, rfl, fun D hD => ?_⟩
      have nDa : D ≠ a := (ne_of_none hP.1 hD).symm
      refine lc_it (walk_str (z := RT)) (fun i H' => ∃ f x1 y1, But a H H' ∧ Pool H' a x1 y1 ∧ H' D = some (.lst ((rcs f i).map V.str))) ⟨fun _ => false, x, y, But.of (same_new hD), hP.new hD, upd_same⟩ (fun _ _ _ _ => trivial) ?_ ?_
      · rintro i xx H1 H2 hi ⟨f, x1, y1, b1, Q1, hl⟩ ⟨rfl, c, hc, rfl⟩
        rw [RT_size] at hi
        rw [RT_get i hi] at hc
        have ec : c = code i := (Option.some.inj hc).symm
        subst ec
        refine ⟨rfl, ?_⟩
        refine ⟨_, rfl, a, x1, y1, _, rfl, Q1, by decide, by decide, fun r x2 y2 r0 r1 P2 => ⟨rfl, _, rfl, ifd (fun e => ?_) (fun e => ?_)⟩⟩
        · refine ⟨_, rfl, _, (by rw [upd_ne nDa]; exact hl), ?_, fun k => if k = i then true else f k, x2, y2, (b1.upd).put hD, ⟨by rw [upd_ne nDa.symm]; exact P2.1, P2.2⟩, ?_⟩
          · rw [List.length_map]; have := rcs_len f i; exact szn (by omega)
          · rw [upd_same, rcs_put, List.map_append]; rfl
        · refine ⟨fun k => if k = i then false else f k, x2, y2, b1.upd, P2, ?_⟩
          rw [upd_ne nDa, rcs_put, if_neg Bool.false_ne_true, List.append_nil]
          exact hl
      rintro H1 ⟨f, x1, y1, b1, P1, hl⟩
      rw [RT_size] at hl
      refine ⟨_, D, _, rfl, rfl, .inl (.of hl), rcs_fit f, ?_⟩
      exact q (.str (rtx f)) (.str (rtx f)) x1 y1 _ b1 P1 (.str _) (decide_eq_true (rtx_back f).symm) ((nice_str (k := 1) (rtx_str f) (rtx_len f)).mono (by decide) (Nat.le_refl _))
    | doing =>
      refine ⟨_, rfl, rfl, _, rfl, ifd (fun c => absurd (Eq.trans c (congrArg V.str e1.symm)) (sg_ne (a := 100) (b := 98) (by decide))) (fun _ => ?_)⟩
      refine ⟨_, rfl, rfl, _, rfl, ifd (fun c => absurd (Eq.trans c (congrArg V.str e2.symm)) (sg_ne (a := 100) (b := 110) (by decide))) (fun _ => ?_)⟩
      refine ⟨_, rfl, rfl, _, rfl, ifd (fun c => absurd (Eq.trans c (congrArg V.str e3.symm)) (sg_ne (a := 100) (b := 111) (by decide))) (fun _ => ?_)⟩
      refine ⟨_, rfl, rfl, _, rfl, ifd (fun c => absurd (Eq.trans c (congrArg V.str e4.symm)) (sg_ne (a := 100) (b := 116) (by decide))) (fun _ => ?_)⟩
      refine ⟨_, rfl, rfl, _, rfl, ifd (fun c => absurd (Eq.trans c (congrArg V.str e5.symm)) (sg_ne (a := 100) (b := 121) (by decide))) (fun _ => ?_)⟩
      refine ⟨_, rfl, rfl, _, rfl, ifd (fun c => absurd (Eq.trans c (congrArg V.str e6.symm)) (sg_ne (a := 100) (b := 114) (by decide))) (fun _ => ?_)⟩
      refine ⟨_, rfl, Kind.doing, rfl, rfl, fun L hL => ?_⟩
      have nL : L ≠ a := (ne_of_none hP.1 hL).symm
      refine ⟨_, rfl, _, rfl, _, rfl, L, _, rfl, .inl (.of upd_same), a, x, y, _, rfl, hP.new hL, by decide, by decide, fun r x1 y1 r0 r1 P1 => ?_⟩
      obtain ⟨lv, hv, s', rfl, ms⟩ := pick (xs := (wordsOf .doing).map V.str) (fun v => ∃ s', v = V.str s' ∧ s' ∈ wordsOf .doing) r0 r1 (fun v hv => by obtain ⟨s', m, e⟩ := List.mem_map.mp hv; exact ⟨s', e.symm, m⟩)
      refine ⟨L, _, r, _, rfl, rfl, .of (by rw [upd_ne nL, upd_same]), hv, ?_⟩
      exact q (.str s') (.str s') x1 y1 _ ((But.refl a H).new hL).upd P1 (.str _) (decide_eq_true ms) (words_nice .doing s' ms)
    | asked =>
      refine ⟨_, rfl, rfl, _, rfl, ifd (fun c => absurd (Eq.trans c (congrArg V.str e1.symm)) (sg_ne (a := 107) (b := 98) (by decide))) (fun _ => ?_)⟩
      refine ⟨_, rfl, rfl, _, rfl, ifd (fun c => absurd (Eq.trans c (congrArg V.str e2.symm)) (sg_ne (a := 107) (b := 110) (by decide))) (fun _ => ?_)⟩
      refine ⟨_, rfl, rfl, _, rfl, ifd (fun c => absurd (Eq.trans c (congrArg V.str e3.symm)) (sg_ne (a := 107) (b := 111) (by decide))) (fun _ => ?_)⟩
      refine ⟨_, rfl, rfl, _, rfl, ifd (fun c => absurd (Eq.trans c (congrArg V.str e4.symm)) (sg_ne (a := 107) (b := 116) (by decide))) (fun _ => ?_)⟩
      refine ⟨_, rfl, rfl, _, rfl, ifd (fun c => absurd (Eq.trans c (congrArg V.str e5.symm)) (sg_ne (a := 107) (b := 121) (by decide))) (fun _ => ?_)⟩
      refine ⟨_, rfl, rfl, _, rfl, ifd (fun c => absurd (Eq.trans c (congrArg V.str e6.symm)) (sg_ne (a := 107) (b := 114) (by decide))) (fun _ => ?_)⟩
      refine ⟨_, rfl, Kind.asked, rfl, rfl, fun L hL => ?_⟩
      have nL : L ≠ a := (ne_of_none hP.1 hL).symm
      refine ⟨_, rfl, _, rfl, _, rfl, L, _, rfl, .inl (.of upd_same), a, x, y, _, rfl, hP.new hL, by decide, by decide, fun r x1 y1 r0 r1 P1 => ?_⟩
      obtain ⟨lv, hv, s', rfl, ms⟩ := pick (xs := (wordsOf .asked).map V.str) (fun v => ∃ s', v = V.str s' ∧ s' ∈ wordsOf .asked) r0 r1 (fun v hv => by obtain ⟨s', m, e⟩ := List.mem_map.mp hv; exact ⟨s', e.symm, m⟩)
      refine ⟨L, _, r, _, rfl, rfl, .of (by rw [upd_ne nL, upd_same]), hv, ?_⟩
      exact q (.str s') (.str s') x1 y1 _ ((But.refl a H).new hL).upd P1 (.str _) (decide_eq_true ms) (words_nice .asked s' ms)
    | test =>
      refine ⟨_, rfl, rfl, _, rfl, ifd (fun c => absurd (Eq.trans c (congrArg V.str e1.symm)) (sg_ne (a := 106) (b := 98) (by decide))) (fun _ => ?_)⟩
      refine ⟨_, rfl, rfl, _, rfl, ifd (fun c => absurd (Eq.trans c (congrArg V.str e2.symm)) (sg_ne (a := 106) (b := 110) (by decide))) (fun _ => ?_)⟩
      refine ⟨_, rfl, rfl, _, rfl, ifd (fun c => absurd (Eq.trans c (congrArg V.str e3.symm)) (sg_ne (a := 106) (b := 111) (by decide))) (fun _ => ?_)⟩
      refine ⟨_, rfl, rfl, _, rfl, ifd (fun c => absurd (Eq.trans c (congrArg V.str e4.symm)) (sg_ne (a := 106) (b := 116) (by decide))) (fun _ => ?_)⟩
      refine ⟨_, rfl, rfl, _, rfl, ifd (fun c => absurd (Eq.trans c (congrArg V.str e5.symm)) (sg_ne (a := 106) (b := 121) (by decide))) (fun _ => ?_)⟩
      refine ⟨_, rfl, rfl, _, rfl, ifd (fun c => absurd (Eq.trans c (congrArg V.str e6.symm)) (sg_ne (a := 106) (b := 114) (by decide))) (fun _ => ?_)⟩
      refine ⟨_, rfl, Kind.test, rfl, rfl, fun L hL => ?_⟩
      have nL : L ≠ a := (ne_of_none hP.1 hL).symm
      refine ⟨_, rfl, _, rfl, _, rfl, L, _, rfl, .inl (.of upd_same), a, x, y, _, rfl, hP.new hL, by decide, by decide, fun r x1 y1 r0 r1 P1 => ?_⟩
      obtain ⟨lv, hv, s', rfl, ms⟩ := pick (xs := (wordsOf .test).map V.str) (fun v => ∃ s', v = V.str s' ∧ s' ∈ wordsOf .test) r0 r1 (fun v hv => by obtain ⟨s', m, e⟩ := List.mem_map.mp hv; exact ⟨s', e.symm, m⟩)
      refine ⟨L, _, r, _, rfl, rfl, .of (by rw [upd_ne nL, upd_same]), hv, ?_⟩
      exact q (.str s') (.str s') x1 y1 _ ((But.refl a H).new hL).upd P1 (.str _) (decide_eq_true ms) (words_nice .test s' ms)

def sp__law_row (K : PySem.W.Frag) : Sp := fun vs H Q _ => ∃ (a : Addr) (x y : Int), vs = [.ref a] ∧ Pool H a x y ∧ ∀ v d x1 y1 H', But a H H' → Pool H' a x1 y1 → Dx (news H H') v d → rowD d = true → Nice 140 2 d → Q v H'
theorem ok__law_row {f : Addr} {fd : FuncData} (F : Fun K "_law_row" "_law_row" s__law_row f fd) (T : Txt K w mg) (C__law_take : Cal P w K mg base "_law_take" 1 ["_law_pool_here", "_law_many"] (sp__law_take K)) (C__law_forms : Cal P w K mg base "_law_forms" 1 [] (sp__law_forms K)) (C__law_part : Cal P w K mg base "_law_part" 3 ["_law_pool_here", "_law_sort"] (sp__law_part K)) : FnOk P w K mg base CX0 4 f fd ["_law_pool_here"] (sp__law_row K) := by
  refine F.ok sc__law_row (fun vs H Q E h => ?_) (fun cdv A outer s H vs Q E hr h => ?_)
  · obtain ⟨a, x, y, rfl, hP, q⟩ := h; rfl
  · obtain ⟨a, x, y, rfl, hP, q⟩ := h
    refine ⟨_, (pss_cons (ps_set (i := 1) sc__law_row.nd rfl (.inl rfl) (pe_cal0 C__law_forms (hr.mono (by decide))))
      (pss_cons (ps_set (i := 2) sc__law_row.nd rfl (.inl rfl) (pe_ix (r := rIxL K) ix_list (pe_callB (call_sortedD rfl) (by rfl) T.z_sorted (by decide +kernel) (pa_cons (pv 1) pa_nil)) (pe_cal C__law_take (hr.mono (by decide)) (pa_cons (pv 0) (pa_cons (pe_callB call_lenD (by rfl) T.z_len (by decide +kernel) (pa_cons (pv 1) pa_nil)) pa_nil))) (fun _ _ => rfl)))
      (pss_one (ps_ret (pe_op op_catT (pe_tup (pa_cons (pv 2) pa_nil)) (pe_callTy call_tuple_of (by rfl) T.z_tuple (by decide +kernel) (pa_cons (pe_lc (own := [("_law_sort", 3)]) rfl sc__law_row.nd (pi_str (pe_dget (hu_of hr) (pv 1) (pv 2) (fun _ _ => rfl))) (blkOk_by (own := [("_law_sort", 3)]) (N := ["_law_pool_here", "_law_forms_here", "_law_word", "_law_sort"]) (sc := defScope s__law_row) (by decide +kernel)) (fun _ _ _ _ _ => (pg_name (i := 3) sc__law_row.nd rfl (.inl rfl))) (fun _ _ _ _ _ => pts_nil) (fun _ _ _ _ _ => (pe_cal C__law_part (hr.mono (by decide)) (pa_cons (pv 0) (pa_cons (pv 3) pa_nil))))) pa_nil))))))), ?_⟩
    refine ⟨rfl, fun p1 H1 S1 hp1 e1 => ?_⟩
    have P1 := hP.same S1
    have n1 : p1 ≠ a := fun z => by rw [z, P1.1] at e1; cases e1
    refine ⟨_, rfl, p1, formsV, formsK.map (·.1), rfl, .inl e1, formsV_keys, by decide, fun ys pL perm _ hpL => ?_⟩
    have nL : pL ≠ a := (ne_of_none P1.1 hpL).symm
    have nL1 : p1 ≠ pL := ne_of_none e1 hpL
    refine ⟨_, rfl, _, rfl, p1, formsV, rfl, by rw [upd_ne nL1]; exact e1, a, x, y, _, rfl, P1.new hpL, by decide, by decide, fun r x2 y2 r0 r1 P2 => ?_⟩
    obtain ⟨lv, hv, w, rfl, mw⟩ := pick (xs := ys.map V.str) (fun v => ∃ w, v = V.str w ∧ w ∈ formsK.map (·.1)) r0 (by
      rw [List.length_map, perm.length_eq]
      exact r1) (fun v hv => by
      obtain ⟨w, m, e⟩ := List.mem_map.mp hv
      exact ⟨w, e.symm, perm.mem_iff.mp m⟩)
    refine ⟨pL, _, r, _, rfl, rfl, .of (by rw [upd_ne nL, upd_same]), hv, ?_⟩
    clear hv perm r1
    obtain ⟨ks, hl⟩ := forms_some mw
    have k4 := forms_len hl
    have B2 : But a H (upd (upd H1 pL (.lst (ys.map V.str))) a (.lst [.int x2, .int y2])) := ((But.of S1).new hpL).upd
    have e2 : (upd (upd H1 pL (.lst (ys.map V.str))) a (.lst [.int x2, .int y2])) p1 = some (.dK formsV) := by rw [upd_ne n1, upd_ne nL1]; exact e1
    generalize upd (upd H1 pL _) a _ = H2 at B2 P2 e2 ⊢
    refine ⟨_, rfl, sz (by simp), fun t1 ht1 => ?_⟩
    have st1 := same_new (o := .tup [V.str w]) ht1
    have nt1 : t1 ≠ a := (ne_of_none P2.1 ht1).symm
    have f1 : (upd H2 t1 (.tup [V.str w])) t1 = some (.tup [V.str w]) := upd_same
    have e3 := st1 _ _ e2
    have P3 := P2.new (o := .tup [V.str w]) ht1
    have B3 := B2.trans (But.of st1)
    have h1 : H t1 = none := B2.fre P2.1 ht1
    generalize upd H2 t1 _ = G at f1 e3 P3 B3 ⊢
    have dg : DGet G p1 (.str w) (some (.str (sgs ks))) := by
      have := DGet.k (k := Sum.inr w) e3
      rw [formsV_val, hl] at this
      exact this
    refine ⟨_, rfl, _, rfl, p1, _, rfl, dg, sgs ks, rfl, fun D hD => ?_⟩
    have nDa : D ≠ a := (ne_of_none P3.1 hD).symm
    have gD : (upd G D (.lst [])) D = some (.lst []) := upd_same
    have gA : (upd G D (.lst [])) a = some (.lst [.int x2, .int y2]) := by rw [upd_ne nDa.symm]; exact P3.1
    refine lc_it (walk_str (z := sgs ks)) (fun i H' => ∃ vs ds x1 y1, But a G H' ∧ Pool H' a x1 y1 ∧ H' D = some (.lst vs) ∧ vs.length = i ∧ DxAll (news (upd G D (.lst [])) H') vs ds ∧ partsD (ks.take i) ds = true ∧ ∀ d ∈ ds, Nice 30 1 d)
      ⟨[], [], x2, y2, But.of (same_new hD), P3.new hD, upd_same, rfl, .nil, rfl, fun _ h => nomatch h⟩ (fun _ _ _ _ => trivial) ?_ ?_
    · rintro i xx HA HB hi ⟨vs, ds, x3, y3, b1, Q1, hl1, len1, dx1, ok1, nc1⟩ ⟨rfl, c, hc, rfl⟩
      obtain ⟨k, hk, rfl⟩ := sgs_at hc
      rw [sgs_size] at hi
      refine ⟨rfl, ?_⟩
      refine ⟨_, rfl, _, rfl, a, x3, y3, k, rfl, Q1, fun v d x4 y4 HC bC PC dC okC ncC => ?_⟩
      have lC := bC _ _ nDa hl1
      refine ⟨_, lC, by rw [len1]; exact szn (by omega), vs ++ [v], ds ++ [d], x4, y4, (b1.trans bC).put hD, ⟨by rw [upd_ne nDa.symm]; exact PC.1, PC.2⟩, upd_same, by rw [List.length_append, len1]; rfl, ?_, ?_, ?_⟩
      · have dom : ∀ b, HB b = none → (upd G D (.lst [])) b = none := fun b n => by
          have nb : b ≠ D := fun z => by rw [z, hl1] at n; cases n
          rw [upd_ne nb]
          exact b1.fre Q1.1 n
        exact ((dx1.same (news_but gA bC)).snoc (dC.same (news_mono dom))).same (news_upd gD)
      · rw [List.take_add_one, hk]
        exact partsD_app ok1 okC
      · intro z hz
        rcases List.mem_append.mp hz with h | h
        · exact nc1 z h
        · rw [List.mem_singleton.mp h]; exact ncC
    rintro HA ⟨vs, ds, x3, y3, b1, Q1, hl1, len1, dx1, ok1, nc1⟩
    rw [sgs_size] at len1 ok1
    rw [List.take_length] at ok1
    have dlen := dx1.length
    have row : rowD (.tuple (.str w :: ds)) = true := by
      show (match look formsK w with
        | some ks => partsD ks ds
        | none => false) = true
      rw [hl]; exact ok1
    have nice : Nice 140 2 (.tuple (.str w :: ds)) := by
      have g := NiceAll.of nc1
      have c := (NiceAll.cons (word_nice mw) g).tuple
      refine c.mono ?_ (Nat.le_refl _)
      have : ds.length ≤ 4 := by omega
      omega
    refine ⟨D, vs, rfl, .inl ⟨.of hl1, fun t2 ht2 => ?_⟩⟩
    have ht1' := b1 _ _ nt1 f1
    have hA : HA a = some _ := Q1.1
    have BH := B3.trans b1
    have dom : ∀ b, (upd G D (.lst [])) b = none → H b = none := fun b n => by
      have nb : b ≠ D := fun z => by rw [z, gD] at n; cases n
      rw [upd_ne nb] at n
      exact B3.fre P3.1 n
    have h2 : H t2 = none := BH.fre hA ht2
    have n12 : t1 ≠ t2 := ne_of_none ht1' ht2
    have st2 := same_new (o := .tup vs) ht2
    have dx2 := (dx1.same (news_mono dom)).same (fun b o e => by obtain ⟨n, e⟩ := news_of e; exact news_at n (st2 _ _ e) : Same (news H HA) (news H (upd HA t2 (.tup vs))))
    have ht1'' := st2 _ _ ht1'
    have e2' : (upd HA t2 (.tup vs)) t2 = some (.tup vs) := upd_same
    have P5 := Q1.new (o := .tup vs) ht2
    have B5 := BH.trans (But.of st2)
    generalize upd HA t2 _ = HD at dx2 ht1'' e2' P5 B5 ⊢
    refine ⟨t1, t2, [V.str w], vs, rfl, rfl, .of ht1'', .of e2', (fun z => nomatch z), ?_, fun z => ?_, fun _ p3 hp3 => ?_⟩
    · show 1 + vs.length ≤ sizeLine
      exact sz (by omega)
    · subst z
      cases dx2
      exact q (.ref t1) _ x3 y3 HD B5 P5 (.tup (news_at h1 ht1'') (.cons (.str w) .nil)) row nice
    · have h3 : H p3 = none := B5.fre P5.1 hp3
      have st3 := same_new (o := .tup ([V.str w] ++ vs)) hp3
      refine q (.ref p3) _ x3 y3 _ (B5.trans (But.of st3)) (P5.new hp3) (.tup (news_at h3 upd_same) (.cons (.str w) (dx2.same ?_))) row nice
      exact fun b o e => by obtain ⟨n, e⟩ := news_of e; exact news_at n (st3 _ _ e)

def sp__law_is_from (K : PySem.W.Frag) : Sp := fun vs H Q _ => ∃ v d l m, vs = [v, .int l, .int m] ∧ Dx H v d ∧ Q (.bl (wholeD d l m)) H
theorem ok__law_is_from {f : Addr} {fd : FuncData} (F : Fun K "_law_is_from" "_law_is_from" s__law_is_from f fd) (T : Txt K w mg) : FnOk P w K mg base CX0 1 f fd ["_law_thing", "_law_low", "_law_high"] (sp__law_is_from K) := by
  refine F.ok sc__law_is_from (fun vs H Q E h => ?_) (fun cdv A outer s H vs Q E hr h => ?_)
  · obtain ⟨v, d, l, m, rfl, hd, q⟩ := h; rfl
  · obtain ⟨v, d, l, m, rfl, hd, q⟩ := h
    refine ⟨_, (pss_one (ps_ret (pe_and (pe_callB call_isi (by rfl) T.z_isinstance (by decide +kernel) (pa_cons (pv 0) (pa_cons (pe_bltn (v := .ty "int") (by rfl) T.z_int (by decide +kernel) rfl) pa_nil))) (pe_and (pe_not (pe_callB call_isi (by rfl) T.z_isinstance (by decide +kernel) (pa_cons (pv 0) (pa_cons (pe_bltn (v := .ty "bool") (by rfl) T.z_bool (by decide +kernel) rfl) pa_nil)))) (pe_one (pe_chain op_le op_le (pv 1) (pv 0) (pv 2))))))), ?_⟩
    obtain ⟨t, ty, kt⟩ := hd.int? (K := K)
    refine ⟨_, rfl, _, _, t, _, dInt d, rfl, .ty "int", ty, kt, dInt d, rfl, ifb (fun c => ?_) (fun c => ?_)⟩
    · obtain ⟨t2, ty2, kt2⟩ := hd.bool? (K := K)
      refine ⟨_, rfl, _, _, t2, _, dBool d, rfl, .ty "bool", ty2, kt2, dBool d, rfl, !dBool d, rfl, ifnb (fun c2 => ?_) (fun c2 => ?_)⟩
      · obtain ⟨i, rfl⟩ : ∃ i, d = .int i := by
          cases d with
          | int i => exact ⟨i, rfl⟩
          | bool b => cases c2
          | _ => cases c
        cases hd.int_of
        refine ⟨_, rfl, _, rfl, _, _, rfl, rfl, _, rfl, ifd (fun h1 => ?_) (fun h1 => ?_)⟩
        · refine ⟨_, rfl, _, _, rfl, rfl, ?_⟩
          have e : wholeD (.int i) l m = decide (i ≤ m) := by
            show decide _ = decide _
            by_cases h : i ≤ m <;> simp [h, h1]
          rw [e] at q
          exact q
        · have e : wholeD (.int i) l m = false := decide_eq_false fun h => h1 h.1
          rw [e] at q
          exact q
      · have e : wholeD d l m = false := by cases d <;> first | rfl | cases c2
        rw [e] at q
        exact q
    · have e : wholeD d l m = false := by cases d <;> first | rfl | cases c
      rw [e] at q
      exact q

def sp__law_is_part__v0 (K : PySem.W.Frag) : Sp := fun vs H Q _ => ∃ v d k, vs = [.str (one (Kind.sg k)), v] ∧ (k = .box ∨ k = .worth) ∧ Dx H v d ∧ ∀ H', Same H H' → Q (.bl (partD k d)) H'
theorem ok__law_is_part__v0 {f : Addr} {fd : FuncData} (F : Fun K "_law_is_part" "_law_is_part" s__law_is_part__v0 f fd) (T : Txt K w mg) (C__law_is_from : Cal P w K mg base "_law_is_from" 1 ["_law_thing", "_law_low", "_law_high"] (sp__law_is_from K)) : FnOk P w K mg base CX0 2 f fd ["_law_sort", "_law_thing"] (sp__law_is_part__v0 K) := by
  refine F.ok sc__law_is_part__v0 (fun vs H Q E h => ?_) (fun cdv A outer s H vs Q E hr h => ?_)
  · obtain ⟨v, d, k, rfl, hk, hd, q⟩ := h; rfl
  · obtain ⟨v, d, k, rfl, hk, hd, q⟩ := h
    refine ⟨_, (pss_cons (ps_if (pt_cmpR op_in_sign (pv 0) pe_str (by rfl)) (pss_cons (ps_asg (pe_dget (hu_of hr) (pe_disp (pps_cons pe_str (pe_tup (pa_cons pe_int (pa_cons pe_int pa_nil))) (pps_cons pe_str (pe_tup (pa_cons pe_int (pa_cons pe_int pa_nil))) (pps_cons pe_str (pe_tup (pa_cons (pe_un un_neg pe_int) (pa_cons pe_int pa_nil))) (pps_cons pe_str (pe_tup (pa_cons pe_int (pa_cons pe_int pa_nil))) pps_nil)))) (by rfl) (by rfl) (fun z => by cases z) (by decide)) (pv 0) (fun _ _ => rfl)) (pg_tup rfl (pgs_cons (pg_name (i := 2) sc__law_is_part__v0.nd rfl (.inl rfl)) (pgs_cons (pg_name (i := 3) sc__law_is_part__v0.nd rfl (.inl rfl)) pgs_nil))))
      (pss_one (ps_ret (pe_cal C__law_is_from (hr.mono (by decide)) (pa_cons (pv 1) (pa_cons (pv 2) (pa_cons (pv 3) pa_nil))))))) pss_nil)
      (pss_cons (ps_if (pt_cmpR op_eq (pv 0) pe_str (nomark _)) (pss_cons (ps_if (PW.pt (pw_or (pt_not (pt_val (pe_callB call_isi (by rfl) T.z_isinstance (by decide +kernel) (pa_cons (pv 1) (pa_cons (pe_bltn (v := .ty "tuple") (by rfl) T.z_tuple (by decide +kernel) rfl) pa_nil))))) (pw_or (pt_cmpR op_ne (pe_callB call_len_seq (by rfl) T.z_len (by decide +kernel) (pa_cons (pv 1) pa_nil)) pe_int (nomark _)) (pw_or1 (pt_cmpR (r := rNotInD K) (op_notInD (hu65 hr)) (pe_ix (r := rIxT K) ix_tup (pv 1) pe_int (fun _ _ => rfl)) (pe_lst (pa_cons pe_str (pa_cons pe_str pa_nil))) (by rfl)))))) (pss_one (ps_ret pe_bl)) pss_nil)
      (pss_one ps_never)) pss_nil)
      (pss_cons (ps_if (pt_cmpR op_eq (pv 0) pe_str (nomark _)) (pss_one (ps_ret (pe_and (pe_callB call_isi (by rfl) T.z_isinstance (by decide +kernel) (pa_cons (pv 1) (pa_cons (pe_bltn (v := .ty "str") (by rfl) T.z_str (by decide +kernel) rfl) pa_nil))) (pe_one (pe_cmpR (r := rEqD K) (op_eqD hr.units) (pe_lc (own := [("_law_sign", 4)]) rfl sc__law_is_part__v0.nd (pi_str pe_str) (blkOk_by (own := [("_law_sign", 4)]) (N := ["_law_sort", "_law_thing", "_law_low", "_law_high", "_law_sign"]) (sc := defScope s__law_is_part__v0) (by decide +kernel)) (fun _ _ _ _ _ => (pg_name (i := 4) sc__law_is_part__v0.nd rfl (.inl rfl))) (fun _ _ _ _ _ => (pts_one (pt_cmpR op_in_sign (pv 4) (pv 1) (by rfl)))) (fun _ _ _ _ _ => (pv 4))) (pe_callTy (call_listStr rfl) (by rfl) T.z_list (by decide +kernel) (pa_cons (pv 1) pa_nil)) (nomark _)))))) pss_nil)
      (pss_one ps_never)))), ?_⟩
    cases hn : numOfK k with
    | none => rcases hk with rfl | rfl <;> cases hn
    | some lm =>
      obtain ⟨l, m⟩ := lm
      refine ⟨_, rfl, k.sg, _, rfl, rfl, _, rfl, ifbT (by rw [in_bnot, hn]; rfl) ?_⟩
      refine fun p hp => ?_
      refine ⟨sz (by simp), fun t1 ht1 => ⟨sz (by simp), fun t2 ht2 => ⟨_, rfl, sz (by simp), fun t3 ht3 => ⟨sz (by simp), fun t4 ht4 => ?_⟩⟩⟩⟩
      have s0 := same_new (o := .dK []) hp
      have s1 := same_new (o := .tup [.int 0, .int 7]) ht1
      have s2 := same_new (o := .tup [.int 0, .int 65535]) ht2
      have s3 := same_new (o := .tup [.int (-8), .int 15]) ht3
      have s4 := same_new (o := .tup [.int 0, .int 4095]) ht4
      have ep := s4 _ _ (s3 _ _ (s2 _ _ (s1 _ _ (upd_same (H := H) (a := p) (o := .dK [])))))
      have f1 := s4 _ _ (s3 _ _ (s2 _ _ (upd_same (H := upd H p (.dK [])) (a := t1) (o := .tup [.int 0, .int 7]))))
      have f2 := s4 _ _ (s3 _ _ (upd_same (H := upd (upd H p (.dK [])) t1 (.tup [.int 0, .int 7])) (a := t2) (o := .tup [.int 0, .int 65535])))
      have f3 := s4 _ _ (upd_same (H := upd (upd (upd H p (.dK [])) t1 (.tup [.int 0, .int 7])) t2 (.tup [.int 0, .int 65535])) (a := t3) (o := .tup [.int (-8), .int 15]))
      have f4 : (upd (upd (upd (upd (upd H p (.dK [])) t1 (.tup [.int 0, .int 7])) t2 (.tup [.int 0, .int 65535])) t3 (.tup [.int (-8), .int 15])) t4 (.tup [.int 0, .int 4095])) t4 = some (.tup [.int 0, .int 4095]) := upd_same
      have SS := (((s0.trans s1).trans s2).trans s3).trans s4
      refine ⟨ep, (four t1 t2 t3 t4).map fun p => ((Sum.inr p.1 : Key), p.2), rfl, by simp [four], ?_⟩
      clear s0 s1 s2 s3 s4 ht1 ht2 ht3 ht4
      generalize upd (upd (upd (upd (upd H p _) t1 _) t2 _) t3 _) t4 _ = G at ep f1 f2 f3 f4 SS ⊢
      rw [four_merge]
      have nn : ∀ {t : Addr} {xs : List V}, G t = some (.tup xs) → t ≠ p := fun {t xs} e z => by rw [z, ep] at e; cases e
      obtain ⟨t, ht, cs⟩ := four_at (t1 := t1) (t2 := t2) (t3 := t3) (t4 := t4) hn
      have fT : G t = some (.tup [.int l, .int m]) := by
        rcases cs with ⟨rfl, rfl, rfl⟩ | ⟨rfl, rfl, rfl⟩ | ⟨rfl, rfl, rfl⟩ | ⟨rfl, rfl, rfl⟩
        · exact f1
        · exact f2
        · exact f3
        · exact f4
      have fT2 : (upd G p (.dK ((four t1 t2 t3 t4).map fun p => ((Sum.inr p.1 : Key), p.2)))) t = some (.tup [.int l, .int m]) := by rw [upd_ne (nn fT)]; exact fT
      have dg : DGet (upd G p (.dK ((four t1 t2 t3 t4).map fun p => ((Sum.inr p.1 : Key), p.2)))) p (.str (one k.sg)) (some (.ref t)) := by
        have := DGet.k (k := Sum.inr (one k.sg)) (upd_same (H := G) (a := p) (o := .dK ((four t1 t2 t3 t4).map fun p => ((Sum.inr p.1 : Key), p.2))))
        rw [valV_look, ht] at this
        exact this
      have SF : Same H (upd G p (.dK ((four t1 t2 t3 t4).map fun p => ((Sum.inr p.1 : Key), p.2)))) := fun b o e => by
        rw [upd_ne (ne_of_none e hp)]; exact SS _ _ e
      generalize upd G p _ = G2 at fT2 dg SF ⊢
      refine ⟨_, rfl, p, _, rfl, dg, t, _, rfl, .of fT2, rfl, _, _, rfl, _, _, rfl, rfl, ?_⟩
      refine ⟨_, rfl, _, rfl, _, rfl, v, d, l, m, rfl, hd.same SF, ?_⟩
      rw [← part_numK hn d]
      exact q _ SF

def sp__law_is_part (K : PySem.W.Frag) : Sp := fun vs H Q _ => ∃ v d k n, vs = [.str (one (Kind.sg k)), v] ∧ Dx H v d ∧ Nice n 60 d ∧ (∀ s, d = .str s → s.cps.size ≤ 1000000) ∧ ∀ H', Same H H' → Q (.bl (partD k d)) H'
theorem ok__law_is_part {f : Addr} {fd : FuncData} (F : Fun K "_law_is_part" "_law_is_part" s__law_is_part f fd) (T : Txt K w mg) (C__law_lists : Cal P w K mg base "_law_lists" 1 ["_law_sort"] (sp__law_lists K)) (C__law_is_from : Cal P w K mg base "_law_is_from" 1 ["_law_thing", "_law_low", "_law_high"] (sp__law_is_from K)) (C__law_is_part__v0 : Cal P w K mg base "_law_is_part" 2 ["_law_sort", "_law_thing"] (sp__law_is_part__v0 K)) : FnOk P w K mg base CX0 3 f fd ["_law_sort", "_law_thing"] (sp__law_is_part K) := by
  refine F.ok sc__law_is_part (fun vs H Q E h => ?_) (fun cdv A outer s H vs Q E hr h => ?_)
  · obtain ⟨v, d, k, n, rfl, hd, nc, hz, q⟩ := h; rfl
  · obtain ⟨v, d, k, n, rfl, hd, nc, hz, q⟩ := h
    refine ⟨_, (pss_cons (ps_if (pt_cmpR op_in_sign (pv 0) pe_str (by rfl)) (pss_cons (ps_asg (pe_dget (hu_of hr) (pe_disp (pps_cons pe_str (pe_tup (pa_cons pe_int (pa_cons pe_int pa_nil))) (pps_cons pe_str (pe_tup (pa_cons pe_int (pa_cons pe_int pa_nil))) (pps_cons pe_str (pe_tup (pa_cons (pe_un un_neg pe_int) (pa_cons pe_int pa_nil))) (pps_cons pe_str (pe_tup (pa_cons pe_int (pa_cons pe_int pa_nil))) pps_nil)))) (by rfl) (by rfl) (fun z => by cases z) (by decide)) (pv 0) (fun _ _ => rfl)) (pg_tup rfl (pgs_cons (pg_name (i := 2) sc__law_is_part.nd rfl (.inl rfl)) (pgs_cons (pg_name (i := 3) sc__law_is_part.nd rfl (.inl rfl)) pgs_nil))))
      (pss_one (ps_ret (pe_cal C__law_is_from (hr.mono (by decide)) (pa_cons (pv 1) (pa_cons (pv 2) (pa_cons (pv 3) pa_nil))))))) pss_nil)
      (pss_cons (ps_if (pt_cmpR op_eq (pv 0) pe_str (nomark _)) (pss_cons (ps_if (PW.pt (pw_or (pt_not (pt_val (pe_callB call_isi (by rfl) T.z_isinstance (by decide +kernel) (pa_cons (pv 1) (pa_cons (pe_bltn (v := .ty "tuple") (by rfl) T.z_tuple (by decide +kernel) rfl) pa_nil))))) (pw_or (pt_cmpR op_ne (pe_callB call_len_seq (by rfl) T.z_len (by decide +kernel) (pa_cons (pv 1) pa_nil)) pe_int (nomark _)) (pw_or1 (pt_cmpR (r := rNotInD K) (op_notInD (hu65 hr)) (pe_ix (r := rIxT K) ix_tup (pv 1) pe_int (fun _ _ => rfl)) (pe_lst (pa_cons pe_str (pa_cons pe_str pa_nil))) (by rfl)))))) (pss_one (ps_ret pe_bl)) pss_nil)
      (pss_one (ps_ret (pe_cal C__law_is_part__v0 (hr.mono (by decide)) (pa_cons (pe_ix (r := rIxL K) ix_list (pe_lst (pa_cons pe_str (pa_cons pe_str pa_nil))) (pe_callTy call_int1 (by rfl) T.z_int (by decide +kernel) (pa_cons (pe_cmpR op_eq (pe_ix (r := rIxT K) ix_tup (pv 1) pe_int (fun _ _ => rfl)) pe_str (nomark _)) pa_nil)) (fun _ _ => rfl)) (pa_cons (pe_ix (r := rIxT K) ix_tup (pv 1) pe_int (fun _ _ => rfl)) pa_nil)))))) pss_nil)
      (pss_cons (ps_if (pt_cmpR op_eq (pv 0) pe_str (nomark _)) (pss_one (ps_ret (pe_and (pe_callB call_isi (by rfl) T.z_isinstance (by decide +kernel) (pa_cons (pv 1) (pa_cons (pe_bltn (v := .ty "str") (by rfl) T.z_str (by decide +kernel) rfl) pa_nil))) (pe_one (pe_cmpR (r := rEqD K) (op_eqD hr.units) (pe_lc (own := [("_law_sign", 4)]) rfl sc__law_is_part.nd (pi_str pe_str) (blkOk_by (own := [("_law_sign", 4)]) (N := ["_law_sort", "_law_thing", "_law_low", "_law_high", "_law_sign"]) (sc := defScope s__law_is_part) (by decide +kernel)) (fun _ _ _ _ _ => (pg_name (i := 4) sc__law_is_part.nd rfl (.inl rfl))) (fun _ _ _ _ _ => (pts_one (pt_cmpR op_in_sign (pv 4) (pv 1) (by rfl)))) (fun _ _ _ _ _ => (pv 4))) (pe_callTy (call_listStr rfl) (by rfl) T.z_list (by decide +kernel) (pa_cons (pv 1) pa_nil)) (nomark _)))))) pss_nil)
      (pss_one (ps_ret (pe_and (pe_callB call_isi (by rfl) T.z_isinstance (by decide +kernel) (pa_cons (pv 1) (pa_cons (pe_bltn (v := .ty "str") (by rfl) T.z_str (by decide +kernel) rfl) pa_nil))) (pe_one (pe_cmpR (r := rInD K) (op_inD (hu65 hr)) (pv 1) (pe_cal C__law_lists (hr.mono (by decide)) (pa_cons (pv 0) pa_nil)) (by rfl))))))))), ?_⟩
    obtain ⟨e1, e2, e3, e4, e5, e6, e7, e8, e9⟩ := sg_one
    cases hn : numOfK k with
    | some lm =>
      obtain ⟨l, m⟩ := lm
      refine ⟨_, rfl, k.sg, _, rfl, rfl, _, rfl, ifbT (by rw [in_bnot, hn]; rfl) ?_⟩
      refine fun p hp => ?_
      refine ⟨sz (by simp), fun t1 ht1 => ⟨sz (by simp), fun t2 ht2 => ⟨_, rfl, sz (by simp), fun t3 ht3 => ⟨sz (by simp), fun t4 ht4 => ?_⟩⟩⟩⟩
      have s0 := same_new (o := .dK []) hp
      have s1 := same_new (o := .tup [.int 0, .int 7]) ht1
      have s2 := same_new (o := .tup [.int 0, .int 65535]) ht2
      have s3 := same_new (o := .tup [.int (-8), .int 15]) ht3
      have s4 := same_new (o := .tup [.int 0, .int 4095]) ht4
      have ep := s4 _ _ (s3 _ _ (s2 _ _ (s1 _ _ (upd_same (H := H) (a := p) (o := .dK [])))))
      have f1 := s4 _ _ (s3 _ _ (s2 _ _ (upd_same (H := upd H p (.dK [])) (a := t1) (o := .tup [.int 0, .int 7]))))
      have f2 := s4 _ _ (s3 _ _ (upd_same (H := upd (upd H p (.dK [])) t1 (.tup [.int 0, .int 7])) (a := t2) (o := .tup [.int 0, .int 65535])))
      have f3 := s4 _ _ (upd_same (H := upd (upd (upd H p (.dK [])) t1 (.tup [.int 0, .int 7])) t2 (.tup [.int 0, .int 65535])) (a := t3) (o := .tup [.int (-8), .int 15]))
      have f4 : (upd (upd (upd (upd (upd H p (.dK [])) t1 (.tup [.int 0, .int 7])) t2 (.tup [.int 0, .int 65535])) t3 (.tup [.int (-8), .int 15])) t4 (.tup [.int 0, .int 4095])) t4 = some (.tup [.int 0, .int 4095]) := upd_same
      have SS := (((s0.trans s1).trans s2).trans s3).trans s4
      refine ⟨ep, (four t1 t2 t3 t4).map fun p => ((Sum.inr p.1 : Key), p.2), rfl, by simp [four], ?_⟩
      clear s0 s1 s2 s3 s4 ht1 ht2 ht3 ht4
      generalize upd (upd (upd (upd (upd H p _) t1 _) t2 _) t3 _) t4 _ = G at ep f1 f2 f3 f4 SS ⊢
      rw [four_merge]
      have nn : ∀ {t : Addr} {xs : List V}, G t = some (.tup xs) → t ≠ p := fun {t xs} e z => by rw [z, ep] at e; cases e
      obtain ⟨t, ht, cs⟩ := four_at (t1 := t1) (t2 := t2) (t3 := t3) (t4 := t4) hn
      have fT : G t = some (.tup [.int l, .int m]) := by
        rcases cs with ⟨rfl, rfl, rfl⟩ | ⟨rfl, rfl, rfl⟩ | ⟨rfl, rfl, rfl⟩ | ⟨rfl, rfl, rfl⟩
        · exact f1
        · exact f2
        · exact f3
        · exact f4
      have fT2 : (upd G p (.dK ((four t1 t2 t3 t4).map fun p => ((Sum.inr p.1 : Key), p.2)))) t = some (.tup [.int l, .int m]) := by rw [upd_ne (nn fT)]; exact fT
      have dg : DGet (upd G p (.dK ((four t1 t2 t3 t4).map fun p => ((Sum.inr p.1 : Key), p.2)))) p (.str (one k.sg)) (some (.ref t)) := by
        have := DGet.k (k := Sum.inr (one k.sg)) (upd_same (H := G) (a := p) (o := .dK ((four t1 t2 t3 t4).map fun p => ((Sum.inr p.1 : Key), p.2))))
        rw [valV_look, ht] at this
        exact this
      have SF : Same H (upd G p (.dK ((four t1 t2 t3 t4).map fun p => ((Sum.inr p.1 : Key), p.2)))) := fun b o e => by
        rw [upd_ne (ne_of_none e hp)]; exact SS _ _ e
      generalize upd G p _ = G2 at fT2 dg SF ⊢
      refine ⟨_, rfl, p, _, rfl, dg, t, _, rfl, .of fT2, rfl, _, _, rfl, _, _, rfl, rfl, ?_⟩
      refine ⟨_, rfl, _, rfl, _, rfl, v, d, l, m, rfl, hd.same SF, ?_⟩
      rw [← part_numK hn d]
      exact q _ SF
    
    | none =>
      refine ⟨_, rfl, k.sg, _, rfl, rfl, _, rfl, ifbF (by rw [in_bnot, hn]; rfl) ?_⟩
      by_cases ky : k = .by_
      · subst ky
        refine ⟨_, rfl, rfl, _, rfl, ifd (fun _ => ?_) (fun c => absurd (congrArg V.str e5) c)⟩
        have no : ∀ H', Same H H' → byD d = false → Q (.bl false) H' := fun H' s' e => by
          have z := q _ s'
          rw [show partD .by_ d = false from e] at z
          exact z
        obtain ⟨t, ty, kt⟩ := hd.tup? (K := K)
        refine ⟨_, rfl, _, _, t, _, dTup d, rfl, .ty "tuple", ty, kt, dTup d, rfl, ifnb (fun c => ?_) (fun c => ?_)⟩
        · exact no _ (Same.refl _) (by cases d <;> first | rfl | cases c)
        obtain ⟨ds, rfl⟩ : ∃ ds, d = .tuple ds := by cases d <;> first | exact ⟨_, rfl⟩ | cases c
        obtain ⟨p, xs, rfl, hp, hx⟩ := hd.tup_of
        refine ⟨_, rfl, p, _, rfl, .inr (.of hp), rfl, _, rfl, ifnd (fun c2 => ?_) (fun c2 => ?_)⟩
        · exact no _ (Same.refl _) (byD_len fun e => c2 (by rw [← hx.length] at e; exact congrArg (fun n : Nat => V.int n) e))
        have l2 : xs.length = 2 := by
          have := V.int.inj c2
          omega
        obtain ⟨x1, x2, rfl⟩ : ∃ x1 x2, xs = [x1, x2] := match xs, l2 with
          | [a, b], _ => ⟨a, b, rfl⟩
        obtain ⟨d1, d2, rfl, h1, h2⟩ : ∃ d1 d2, ds = [d1, d2] ∧ Dx H x1 d1 ∧ Dx H x2 d2 := by
          cases hx with
          | cons a r => cases r with
            | cons b r => cases r; exact ⟨_, _, rfl, a, b⟩
        have nall : NiceAll n 60 [d1, d2] := ⟨⟨by have := nc.ft.sh; simpa only [PyData.showable] using this, by have := nc.ft.lv; simpa only [PyData.leavesShort] using this, by have := nc.ft.wt; simpa only [PyData.weight] using this, by have := nc.ft.dp; simp only [PyData.depth] at this; omega⟩, by have := nc.ly; simpa only [PyData.canLay0] using this⟩
        have n1 := nall.mem (d := d1) (by simp)
        have n2 := nall.mem (d := d2) (by simp)
        refine ⟨_, rfl, p, _, 0, _, rfl, rfl, .of hp, atI_nat (j := 0) rfl, sz (by simp), fun L hL => ?_⟩
        have sm := same_new (o := .lst [V.str (Str.ofString "box"), .str (Str.ofString "worth")]) hL
        have fL : (upd H L (.lst [V.str (Str.ofString "box"), .str (Str.ofString "worth")])) L = some (.lst ([Kind.box.nm, Kind.worth.nm].map V.str)) := upd_same
        refine ⟨d1, _, (h1.same sm).dp n1.nd, dp_txts fL, n1.shaped (by decide), shaped_strs (by decide +kernel), _, rfl, ifb (fun c3 => ?_) (fun c3 => ?_)⟩
        · refine no _ sm ?_
          cases d1 with
          | str w' =>
            rw [any_strs] at c3
            have c5 : w' ∉ [Kind.box.nm, Kind.worth.nm] := by simpa using c3
            show (if w' = Kind.box.nm then wholeD d2 0 7 else if w' = Kind.worth.nm then wholeD d2 0 65535 else false) = _
            rw [if_neg fun h => c5 (by rw [h]; simp), if_neg fun h => c5 (by rw [h]; simp)]
          | _ => rfl
        obtain ⟨w', rfl, hw'⟩ : ∃ w', d1 = .str w' ∧ (w' = Kind.box.nm ∨ w' = Kind.worth.nm) := by
          cases hs : dStr d1 with
          | false => rw [any_not _ hs] at c3; cases c3
          | true =>
            cases d1 with
            | str w' =>
              rw [any_strs] at c3
              have c4 : decide (w' ∈ [Kind.box.nm, Kind.worth.nm]) = true := by
                cases h : decide (w' ∈ [Kind.box.nm, Kind.worth.nm]) with
                | true => rfl
                | false => rw [h] at c3; cases c3
              exact ⟨w', rfl, by simpa using of_decide_eq_true c4⟩
            | _ => cases hs
        cases h1.str_of
        have hp2 := sm _ _ hp
        have h22 := h2.same sm
        generalize upd H L _ = G at sm hp2 h22 ⊢
        refine ⟨sz (by simp), fun L2 hL2 => ?_⟩
        have s2 := same_new (o := .lst [V.str (Str.ofString "n"), .str (Str.ofString "b")]) hL2
        have f2 : (upd G L2 (.lst [V.str (Str.ofString "n"), .str (Str.ofString "b")])) L2 = some (.lst [V.str (Str.ofString "n"), .str (Str.ofString "b")]) := upd_same
        have hp3 := s2 _ _ hp2
        have h23 := h22.same s2
        generalize upd G L2 _ = G2 at s2 f2 hp3 h23 ⊢
        refine ⟨_, rfl, p, _, 0, _, rfl, rfl, .of hp3, atI_nat (j := 0) rfl, rfl, .inr ⟨_, rfl, ?_⟩⟩
        rcases hw' with rfl | rfl
        · refine ⟨L2, _, 1, .str (Str.ofString "b"), rfl, ?_, .of f2, atI_nat (j := 1) rfl, ?_⟩
          · rw [decide_eq_true (show V.str Kind.box.nm = V.str (Str.ofString "box") from rfl)]; rfl
          refine ⟨_, rfl, p, _, 1, _, rfl, rfl, .of hp3, atI_nat (j := 1) rfl, x2, d2, .box, ?_, .inl rfl, h23, fun H3 s3 => q _ ((sm.trans s2).trans s3)⟩
          show [V.str (Str.ofString "b"), x2] = _
          rw [← e1]; rfl
        · refine ⟨L2, _, 0, .str (Str.ofString "n"), rfl, ?_, .of f2, atI_nat (j := 0) rfl, ?_⟩
          · rw [decide_eq_false (show V.str Kind.worth.nm ≠ V.str (Str.ofString "box") from fun e => absurd (V.str.inj e) (by decide +kernel))]; rfl
          refine ⟨_, rfl, p, _, 1, _, rfl, rfl, .of hp3, atI_nat (j := 1) rfl, x2, d2, .worth, ?_, .inr rfl, h23, fun H3 s3 => ?_⟩
          · show [V.str (Str.ofString "n"), x2] = _
            rw [← e2]; rfl
          have z := q _ ((sm.trans s2).trans s3)
          have e : partD .by_ (.tuple [.str Kind.worth.nm, d2]) = partD .worth d2 := by
            show (if Kind.worth.nm = Kind.box.nm then wholeD d2 0 7 else if Kind.worth.nm = Kind.worth.nm then wholeD d2 0 65535 else false) = _
            rw [if_neg (by decide +kernel), if_pos rfl]; rfl
          rw [e] at z
          exact z
      have ny : V.str (one k.sg) ≠ V.str (Str.ofString "y") := by rw [← e5]; exact sg_ne (by cases k <;> first | decide | exact absurd rfl ky)
      refine ⟨_, rfl, rfl, _, rfl, ifd (fun c => absurd c ny) (fun _ => ?_)⟩
      by_cases kr : k = .rights
      · subst kr
        have hs : ∀ s, v = .str s → PyData.strOk s = true ∧ s.cps.size ≤ 1000000 := fun s e => by
          subst e
          cases hd
          exact ⟨by have := nc.ly; simpa [PyData.canLay0] using this, hz s rfl⟩
        refine ⟨_, rfl, rfl, _, rfl, ifd (fun _ => ?_) (fun c => absurd (congrArg V.str e6) c)⟩
        have pr : ∀ b H', Same H H' → (b = true ↔ ∃ r, v = .str r ∧ r = rtx (hasR r)) → Q (.bl b) H' := fun b H' s' hb => by
          have e3 : b = partD .rights d := bool_of hb (by
            cases hd with
            | str r => show decide _ = true ↔ _; rw [decide_eq_true_iff]; exact ⟨fun h => ⟨r, rfl, h⟩, fun ⟨r', e, h⟩ => by cases e; exact h⟩
            | _ => exact ⟨fun h => Bool.noConfusion h, fun ⟨_, e, _⟩ => nomatch e⟩)
          rw [e3]
          exact q _ s'
        obtain ⟨t, ty, kt⟩ := hd.str? (K := K)
        refine ⟨_, rfl, _, _, t, _, dStr d, rfl, .ty "str", ty, kt, dStr d, rfl, ifb (fun c1 => ?_) (fun c1 => ?_)⟩
        · obtain ⟨r, rfl⟩ : ∃ r, d = .str r := by cases d <;> first | exact ⟨_, rfl⟩ | cases c1
          cases hd.str_of
          have sr := hs r rfl
          refine ⟨RT, rfl, fun D hD => ?_⟩
          refine lc_it (walk_str (z := RT)) (fun i H' => Same H H' ∧ H' D = some (.lst ((rcs (hasR r) i).map V.str))) ⟨same_new hD, upd_same⟩ (fun _ _ _ _ => trivial) ?_ ?_
          · rintro i x H2 H3 hi ⟨sm, hl⟩ ⟨rfl, c, hc, rfl⟩
            rw [RT_size] at hi
            rw [RT_get i hi] at hc
            have ec : c = code i := (Option.some.inj hc).symm
            subst ec
            refine ⟨rfl, ?_⟩
            refine ⟨_, rfl, _, rfl, code i, r, rfl, rfl, _, rfl, ifb (fun e => ?_) (fun e => ?_)⟩
            · refine ⟨_, rfl, _, hl, ?_, ?_, ?_⟩
              · rw [List.length_map]
                have := rcs_len (hasR r) i
                exact szn (by omega)
              · exact fun b o e => by
                  have n : b ≠ D := ne_of_none e hD
                  rw [upd_ne n]; exact sm b o e
              · rw [upd_same, rcs_succ, List.map_append, if_pos (show hasR r i = true from e)]; rfl
            · refine ⟨sm, ?_⟩
              rw [rcs_succ, if_neg (by unfold hasR; rw [e]; exact Bool.false_ne_true), List.append_nil]
              exact hl
          rintro H2 ⟨sm, hl⟩
          rw [RT_size] at hl
          refine ⟨_, rfl, r, rfl, ?_, fun L hL => ?_⟩
          · have := sr.2; rw [sizeLine_eq]; omega
          have hl2 : (upd H2 L (.lst (signs r))) D = some (.lst ((rcs (hasR r) 9).map V.str)) := by rw [upd_ne (ne_of_none hl hL)]; exact hl
          have S2 : Same H (upd H2 L (.lst (signs r))) := sameN sm hL
          have hL2 : (upd H2 L (.lst (signs r))) L = some (.lst ((r.cps.toList.map one).map V.str)) := by rw [upd_same, signs_strs]
          generalize upd H2 L _ = H3 at hl2 S2 hL2 ⊢
          refine ⟨_, _, dp_txts hl2, dp_txts hL2, shaped_strs (ok_rcs _), shaped_strs (ok_signs sr.1), pr _ _ S2 ?_⟩
          rw [eqv_strs]
          constructor
          · intro h
            exact ⟨r, rfl, rcs_ext (by rw [signs_strs, h])⟩
          · rintro ⟨r', e, h⟩
            cases e
            have e6 := rcs_sig h
            rw [signs_strs] at e6
            exact (List.map_inj_right (fun a b e => V.str.inj e)).mp e6
        · refine pr _ _ (Same.refl _) ⟨fun h => Bool.noConfusion h, fun ⟨r', e, h⟩ => by subst e; cases hd; cases c1⟩
      have nr : V.str (one k.sg) ≠ V.str (Str.ofString "r") := by rw [← e6]; exact sg_ne (by cases k <;> first | decide | exact absurd rfl kr)
      refine ⟨_, rfl, rfl, _, rfl, ifd (fun c => absurd c nr) (fun _ => ?_)⟩
      have hw : worded k = true := by cases k <;> first | rfl | (cases hn; done) | exact absurd rfl ky | exact absurd rfl kr
      have ep : partD k d = oneOf (wordsOf k) d := by cases k <;> first | rfl | cases hw
      obtain ⟨t, ty, kt⟩ := hd.str? (K := K)
      refine ⟨_, rfl, _, _, t, _, dStr d, rfl, .ty "str", ty, kt, dStr d, rfl, ifb (fun c => ?_) (fun c => ?_)⟩
      · obtain ⟨w, rfl⟩ : ∃ w, d = .str w := by cases d <;> first | exact ⟨_, rfl⟩ | cases c
        cases hd.str_of
        refine ⟨_, rfl, _, rfl, k, rfl, hw, fun L hL => ?_⟩
        refine ⟨.str w, _, .str w, dp_txts upd_same, nc.shaped (by decide), shaped_strs (words_ok k), ?_⟩
        have z := q _ (same_new (o := .lst ((wordsOf k).map V.str)) hL)
        rw [ep] at z
        rw [any_strs]
        exact z
      · have e : partD k d = false := by rw [ep]; cases d <;> first | rfl | cases c
        have z := q _ (Same.refl _)
        rw [e] at z
        exact z

def sp__law_is_row (K : PySem.W.Frag) : Sp := fun vs H Q _ => ∃ v d, vs = [v] ∧ Dx H v d ∧ (∀ ds, d = .tuple ds → ∃ n, NiceAll n 60 ds ∧ ∀ s, .str s ∈ ds → s.cps.size ≤ 1000000) ∧ ∀ H', Same H H' → Q (.bl (rowD d)) H'
theorem ok__law_is_row {f : Addr} {fd : FuncData} (F : Fun K "_law_is_row" "_law_is_row" s__law_is_row f fd) (T : Txt K w mg) (C__law_forms : Cal P w K mg base "_law_forms" 1 [] (sp__law_forms K)) (C__law_is_part : Cal P w K mg base "_law_is_part" 3 ["_law_sort", "_law_thing"] (sp__law_is_part K)) : FnOk P w K mg base CX0 4 f fd ["_law_thing"] (sp__law_is_row K) := by
  refine F.ok sc__law_is_row (fun vs H Q E h => ?_) (fun cdv A outer s H vs Q E hr h => ?_)
  · obtain ⟨v, d, rfl, hd, nc, q⟩ := h; rfl
  · obtain ⟨v, d, rfl, hd, nc, q⟩ := h
    refine ⟨_, (pss_cons (ps_set (i := 1) sc__law_is_row.nd rfl (.inl rfl) (pe_cal0 C__law_forms (hr.mono (by decide))))
      (pss_cons (ps_if (PW.pt (pw_or (pt_not (pt_val (pe_callB call_isi (by rfl) T.z_isinstance (by decide +kernel) (pa_cons (pv 0) (pa_cons (pe_bltn (v := .ty "tuple") (by rfl) T.z_tuple (by decide +kernel) rfl) pa_nil))))) (pw_or (pt_cmpR (r := rEqD K) (op_eqD hr.units) (pv 0) (pe_tup pa_nil) (nomark _)) (pw_or (pt_not (pt_val (pe_callB call_isi (by rfl) T.z_isinstance (by decide +kernel) (pa_cons (pe_ix (r := rIxT K) ix_tup (pv 0) pe_int (fun _ _ => rfl)) (pa_cons (pe_bltn (v := .ty "str") (by rfl) T.z_str (by decide +kernel) rfl) pa_nil))))) (pw_or1 (pt_cmp (pc_dnotin (hu_of hr) (pe_ix (r := rIxT K) ix_tup (pv 0) pe_int (fun _ _ => rfl)) (pv 1)) (by rfl))))))) (pss_one (ps_ret pe_bl)) pss_nil)
      (pss_cons (ps_set (i := 2) sc__law_is_row.nd rfl (.inl rfl) (pe_dget (hu_of hr) (pv 1) (pe_ix (r := rIxT K) ix_tup (pv 0) pe_int (fun _ _ => rfl)) (fun _ _ => rfl)))
      (pss_cons (ps_if (pt_cmpR op_ne (pe_callB call_len_seq (by rfl) T.z_len (by decide +kernel) (pa_cons (pv 0) pa_nil)) (pe_op op_add (pe_callB call_len_str (by rfl) T.z_len (by decide +kernel) (pa_cons (pv 2) pa_nil)) pe_int) (nomark _)) (pss_one (ps_ret pe_bl)) pss_nil)
      (pss_one (ps_ret (pe_cmpR (r := rEqD K) (op_eqD hr.units) (pe_lc (own := [("_law_s", 3), ("_law_one", 4)]) (g := gTup K 2 (gCons (gName 3) (gCons (gName 4) gNil))) rfl sc__law_is_row.nd (pi_zipG (k1 := .s) (k2 := .t) (by rfl) T.z_zip (pa_cons (pv 2) (pa_cons (pe_slice sl_tup (pv 0) (po_some pe_int) po_none) pa_nil))) (blkOk_by (own := [("_law_s", 3), ("_law_one", 4)]) (N := ["_law_thing", "_law_forms_here", "_law_sorts", "_law_s", "_law_one"]) (sc := defScope s__law_is_row) (by decide +kernel)) (fun _ _ _ _ _ => by exact (pg_tup rfl (pgs_cons (pg_name (i := 3) sc__law_is_row.nd rfl (.inl rfl)) (pgs_cons (pg_name (i := 4) sc__law_is_row.nd rfl (.inl rfl)) pgs_nil)))) (fun _ _ _ _ _ => (pts_one (pt_not (pt_val (pe_cal C__law_is_part (hr.mono (by decide)) (pa_cons (pv 3) (pa_cons (pv 4) pa_nil))))))) (fun _ _ _ _ _ => (pv 3))) (pe_lst pa_nil) (nomark _)))))))), ?_⟩
    refine ⟨rfl, fun pF H1 S1 hpF eF => ?_⟩
    have hd1 := hd.same S1
    have no : ∀ H', Same H1 H' → rowD d = false → Q (.bl false) H' := fun H' s' e => by
      have z := q _ (S1.trans s')
      rw [e] at z
      exact z
    obtain ⟨t, ty, kt⟩ := hd1.tup? (K := K)
    refine ⟨_, rfl, _, _, t, _, dTup d, rfl, .ty "tuple", ty, kt, dTup d, rfl, ifnb (fun c => ?_) (fun c => ?_)⟩
    · exact no _ (Same.refl _) (by cases d <;> first | rfl | cases c)
    obtain ⟨ds, rfl⟩ : ∃ ds, d = .tuple ds := by cases d <;> first | exact ⟨_, rfl⟩ | cases c
    obtain ⟨n, nall, hz⟩ := nc ds rfl
    obtain ⟨p, xs, rfl, hp, hx⟩ := hd1.tup_of
    have nt := nall.tuple
    refine ⟨_, rfl, sz (by simp), fun t0 ht0 => ?_⟩
    have s2 := same_new (o := .tup []) ht0
    have f0 : (upd H1 t0 (.tup [])) t0 = some (.tup []) := upd_same
    have hd2 := hd1.same s2
    have hp2 := s2 _ _ hp
    have hx2 := hx.same s2
    have eF2 := s2 _ _ eF
    generalize upd H1 t0 _ = G at s2 f0 hd2 hp2 hx2 eF2 ⊢
    refine ⟨.tuple ds, .tuple [], hd2.dp nt.nd, .tup (.of f0) .nil, nt.shaped (by decide), rfl, _, rfl, ?_⟩
    cases hds : ds with
    | nil =>
      refine ifbT (by simp [PyData.eqv, PyData.eqvAll]) ?_
      exact no _ s2 (by rw [hds]; rfl)
    | cons d1 dr =>
      rw [hds] at hx2 hz nall
      refine ifbF (by simp [PyData.eqv, PyData.eqvAll]) ?_
      obtain ⟨x1, xr, rfl, h1, hr'⟩ : ∃ x1 xr, xs = x1 :: xr ∧ Dx G x1 d1 ∧ DxAll G xr dr := by
        cases hx2 with
        | cons a r => exact ⟨_, _, rfl, a, r⟩
      obtain ⟨t1, ty1, kt1⟩ := h1.str? (K := K)
      refine ⟨_, rfl, p, _, 0, _, rfl, rfl, .of hp2, atI_nat (j := 0) rfl, _, _, t1, _, dStr d1, rfl, .ty "str", ty1, kt1, dStr d1, rfl, ifnb (fun c3 => ?_) (fun c3 => ?_)⟩
      · exact no _ s2 (by rw [hds]; cases d1 <;> first | rfl | cases c3)
      obtain ⟨w', rfl⟩ : ∃ w, d1 = .str w := by cases d1 <;> first | exact ⟨_, rfl⟩ | cases c3
      cases h1.str_of
      have er : rowD (.tuple ds) = (match look formsK w' with
          | some ks => partsD ks dr
          | none => false) := by rw [hds]; rfl
      have dg := DGet.k (k := Sum.inr w') eF2
      rw [formsV_val] at dg
      refine ⟨_, rfl, p, _, 0, _, rfl, rfl, .of hp2, atI_nat (j := 0) rfl, ?_⟩
      cases hl : look formsK w' with
      | none =>
        rw [hl] at dg er
        refine ⟨_, rfl, pF, _, rfl, dg, _, rfl, ifbT rfl ?_⟩
        exact no _ s2 er
      | some ks =>
        rw [hl] at dg er
        have k4 := forms_len hl
        replace er : rowD (.tuple ds) = partsD ks dr := er
        refine ⟨_, rfl, pF, _, rfl, dg, _, rfl, ifbF rfl ?_⟩
        refine ⟨_, rfl, _, rfl, p, _, 0, _, rfl, rfl, .of hp2, atI_nat (j := 0) rfl, pF, _, rfl, dg, ?_⟩
        have hlen : (sgs ks).length ≤ sizeLine := by rw [sizeLine_eq]; show (sgs ks).cps.size ≤ _; rw [sgs_size]; omega
        have hlen2 : (sgs ks).length = ks.length := sgs_size ks
        refine ⟨_, rfl, p, _, rfl, .inr (.of hp2), _, rfl, sgs ks, rfl, hlen, _, _, rfl, rfl, rfl, _, rfl, ifnd (fun c4 => ?_) (fun c4 => ?_)⟩
        · refine no _ s2 ?_
          rw [er]
          cases h : partsD ks dr with
          | false => rfl
          | true => exact absurd (by rw [hlen2, List.length_cons, hr'.length, partsD_len h]; rfl) c4
        have el : dr.length = ks.length := by
          have := V.int.inj c4
          rw [hlen2, List.length_cons, hr'.length] at this
          omega
        refine ⟨_, rfl, _, rfl, _, rfl, p, _, rfl, .of hp2, ?_, fun p2 hp3 => ?_⟩
        · rw [show HT.sIx (V.str w' :: xr).length 0 (some 1) = min 1 (V.str w' :: xr).length from HT.sIx_nat _ _ 1, List.length_cons]
          omega
        rw [cut1]
        have s3 := same_new (o := .tup xr) hp3
        have f3 : (upd G p2 (.tup xr)) p2 = some (.tup xr) := upd_same
        have hr3 := hr'.same s3
        have S13 := (S1.trans s2).trans s3
        generalize upd G p2 _ = G2 at s3 f3 hr3 S13 ⊢
        refine ⟨.str (sgs ks), .ref p2, signs (sgs ks), xr, rfl, rfl, .of f3, fun D hD => ?_⟩
        have elx : xr.length = ks.length := by rw [hr'.length, el]
        refine lc_it (walk_zipG (K := K) (k1 := .s) (k2 := .t) (v1 := .str (sgs ks)) (v2 := .ref p2) (n := ks.length) (xs := signs (sgs ks)) (ys := xr) (by rw [signs_sgs, List.length_map, elx, Nat.min_self])) (fun i H' => Same G2 H' ∧ H' D = some (.lst (((badK (ks.take i) (dr.take i)).map fun k => one k.sg).map V.str))) ⟨same_new hD, upd_same⟩ (fun i H' _ h => ⟨rfl, SqT.of (h.1 _ _ f3)⟩) ?_ ?_
        · rintro i x H3 H4 hi ⟨sm2, hl2⟩ ⟨Tp, y1, y2, rfl, hn, rfl, hy1, hy2⟩
          have nD : D ≠ Tp := ne_of_none hl2 hn
          obtain ⟨di, hdi, hxi⟩ := hr3.at hy2
          obtain ⟨k, hk, rfl⟩ : ∃ k, ks[i]? = some k ∧ y1 = V.str (one k.sg) := by
            replace hy1 : (signs (sgs ks))[i]? = some y1 := hy1
            rw [signs_sgs, List.getElem?_map] at hy1
            cases e : ks[i]? with
            | none => rw [e] at hy1; cases hy1
            | some k => rw [e] at hy1; exact ⟨k, rfl, (Option.some.inj hy1).symm⟩
          have mem : di ∈ PyData.str w' :: dr := List.mem_cons_of_mem _ (List.mem_of_getElem? hdi)
          have bt := badK_take ks dr hk hdi
          refine ⟨Tp, _, rfl, .of upd_same, rfl, _, _, rfl, _, _, rfl, rfl, rfl, ?_⟩
          refine ⟨_, rfl, _, rfl, y2, di, k, n, rfl, (hxi.same sm2).same (same_new hn), nall.mem mem, fun s e => hz s (by rw [← e]; exact mem), fun H5 s5 => ⟨_, rfl, ifnb (fun c => ?_) (fun c => ?_)⟩⟩
          · have h5 := s5 _ _ (show (upd H3 Tp _) D = _ by rw [upd_ne nD]; exact hl2)
            rw [c, if_neg Bool.false_ne_true] at bt
            refine ⟨_, rfl, _, h5, ?_, ?_, ?_⟩
            · rw [List.length_map, List.length_map]
              have := badK_len (ks.take i) (dr.take i)
              rw [List.length_take] at this
              exact szn (by omega)
            · exact fun b o e => by
                rw [upd_ne (ne_of_none e hD)]
                exact s5 _ _ (same_new hn _ _ (sm2 b o e))
            · rw [upd_same, bt, List.map_append, List.map_append]; rfl
          · rw [c, if_pos rfl, List.append_nil] at bt
            refine ⟨fun b o e => s5 _ _ (same_new hn _ _ (sm2 b o e)), ?_⟩
            rw [bt]
            exact s5 _ _ (by rw [upd_ne nD]; exact hl2)
        · rintro H3 ⟨sm2, hl2⟩
          have ex1 : ks.take ks.length = ks := List.take_length
          have ex2 : dr.take ks.length = dr := by rw [← el]; exact List.take_length
          rw [ex1, ex2] at hl2
          refine ⟨sz (by simp), fun L hL => ?_⟩
          have hl3 : (upd H3 L (.lst [])) D = some (.lst (((badK ks dr).map fun k => one k.sg).map V.str)) := by rw [upd_ne (ne_of_none hl2 hL)]; exact hl2
          have SF := (S13.trans sm2).trans (same_new (o := .lst []) hL)
          refine ⟨_, .list [], dp_txts hl3, .lst (.of upd_same) .nil, shaped_strs (ones_ok _), rfl, ?_⟩
          rw [eqv_none, List.isEmpty_map, badK_iff el, ← er]
          exact q _ SF

def sp_whole_in (K : PySem.W.Frag) : Sp := fun vs H Q _ => ∃ z, vs = [.str (SX.S z)] ∧ z.length ≤ 1000000 ∧ ∀ v, Dx H v (wholeIn z) → Q v H
theorem ok_whole_in {f : Addr} {fd : FuncData} (F : Fun K "whole_in" "whole_in" s_whole_in f fd) (T : Txt K w mg) : FnOk P w K mg base CX0 1 f fd ["text"] (sp_whole_in K) := by
  obtain ⟨t_MOST_FIGURES, hc_MOST_FIGURES⟩ := T.c_MOST_FIGURES
  refine F.ok sc_whole_in (fun vs H Q E h => ?_) (fun cdv A outer s H vs Q E hr h => ?_)
  · obtain ⟨z, rfl, hz, q⟩ := h; rfl
  · obtain ⟨z, rfl, hz, q⟩ := h
    refine ⟨_, (pss_cons (ps_set (i := 1) sc_whole_in.nd rfl (.inl rfl) (pe_bm PySem.F.plainAttrs_str PySem.F.slot_str_removeprefix PySem.F.type_str_removeprefix mt_removeprefix (pv 0) (pa_cons pe_str pa_nil)))
      (pss_cons (ps_if (PW.pt (pw_or (pt_not (pt_val (pe_bm0 PySem.F.plainAttrs_str PySem.F.slot_str_isascii PySem.F.type_str_isascii mt_isascii (pv 1)))) (pw_or (pt_not (pt_val (pe_bm0 PySem.F.plainAttrs_str PySem.F.slot_str_isdigit PySem.F.type_str_isdigit mt_isdigit (pv 1)))) (pw_or1 (pt_cmpR op_gt (pe_callB call_len_str (by rfl) T.z_len (by decide +kernel) (pa_cons (pv 1) pa_nil)) (pe_glob (v := .int 30) (by rfl) hc_MOST_FIGURES ⟨_, rfl⟩) (nomark _)))))) (pss_one (ps_ret pe_non)) pss_nil)
      (pss_cons (ps_if (PW.pt (pw_and (pt_cmpR op_eq (pe_ix (r := rIxS) ix_str (pv 1) pe_int (fun _ _ => rfl)) pe_str (nomark _)) (pw_and1 (pt_cmpR op_ne (pv 0) pe_str (nomark _))))) (pss_one (ps_ret pe_non)) pss_nil)
      (pss_one (ps_ret (pe_callTy call_int_str (by rfl) T.z_int (by decide +kernel) (pa_cons (pv 0) pa_nil))))))), ?_⟩
    have lz : (SX.S z).length ≤ sizeLine := by rw [SX.S_len, sizeLine_eq]; omega
    have no : wholeOk z = false → Q .non H := fun e => q _ (by rw [whole_false e]; exact .non)
    refine ⟨_, rfl, rfl, _, _, rfl, rfl, lz, ?_⟩
    rw [show Txt.removeprefix (SX.S z) (Str.ofString "-") = SX.S (figs z) from rem_S z]
    refine ⟨_, rfl, rfl, _, rfl, rfl, trivial, _, rfl, ifnb (fun c => ?_) (fun c => ?_)⟩
    · exact no (whole_asc c)
    refine ⟨_, rfl, rfl, _, rfl, rfl, trivial, _, rfl, ifnb (fun d => ?_) (fun d => ?_)⟩
    · exact no (whole_dig0 c d)
    have lf : (SX.S (figs z)).length ≤ sizeLine := by rw [SX.S_len, sizeLine_eq]; have := (figs_len z).1; omega
    refine ⟨_, rfl, _, rfl, lf, _, _, rfl, rfl, _, rfl, ifd (fun l => ?_) (fun l => ?_)⟩
    · refine no (whole_long ?_)
      rw [SX.S_len] at l
      omega
    obtain ⟨⟨c0, r0, e0⟩, h0⟩ := whole_dig1 c d (by rw [SX.S_len] at l; omega)
    have a0 : atI (SX.S (figs z)).cps.toList 0 = some c0 := by
      show atI (figs z) 0 = some c0
      rw [e0]; exact atI_nat (j := 0) rfl
    have fin : wholeOk z = true → intText? (SX.S z) = some (wholeV z) ∧ (SX.S z).length ≤ 640 ∧ Q (.int (wholeV z)) H := fun e => ⟨whole_int e, by rw [SX.S_len]; have := whole_len e; omega, q _ (by rw [show wholeIn z = .int (wholeV z) from if_pos e]; exact .int _)⟩
    refine ⟨_, rfl, _, _, c0, rfl, rfl, lf, a0, rfl, _, rfl, ifd (fun z0 => ?_) (fun z0 => ?_)⟩
    · have z1 : c0 = 48 := one_inj (V.str.inj z0)
      refine ⟨_, rfl, rfl, _, rfl, ifnd (fun z2 => ?_) (fun z2 => ?_)⟩
      · refine no (h0.mpr ⟨by rw [e0, z1]; rfl, fun z3 => z2 ?_⟩)
        rw [z3]; exact congrArg V.str zero_S.symm
      · have ok : wholeOk z = true := by
          cases e : wholeOk z with
          | true => rfl
          | false => exact absurd (SX.S_inj ((V.str.inj z2).trans zero_S)) (h0.mp e).2
        obtain ⟨f1, f2, f3⟩ := fin ok
        exact ⟨_, rfl, _, _, rfl, f1, f2, f3⟩
    · have ok : wholeOk z = true := by
        cases e : wholeOk z with
        | true => rfl
        | false =>
          have := (h0.mp e).1
          rw [e0] at this
          exact absurd (congrArg (fun n => V.str (one n)) (Option.some.inj this)) z0
      obtain ⟨f1, f2, f3⟩ := fin ok
      exact ⟨_, rfl, _, _, rfl, f1, f2, f3⟩

def sp__by_in (K : PySem.W.Frag) : Sp := fun vs H Q _ => ∃ z, vs = [.str (SX.S z)] ∧ z.length ≤ 1000000 ∧ ∀ v H', Same H H' → Dx (news H H') v (byIn z) → Q v H'
theorem ok__by_in {f : Addr} {fd : FuncData} (F : Fun K "_by_in" "_by_in" s__by_in f fd) (T : Txt K w mg) (C_whole_in : Cal P w K mg base "whole_in" 1 ["text"] (sp_whole_in K)) : FnOk P w K mg base CX0 2 f fd ["text"] (sp__by_in K) := by
  refine F.ok sc__by_in (fun vs H Q E h => ?_) (fun cdv A outer s H vs Q E hr h => ?_)
  · obtain ⟨z, rfl, hz, q⟩ := h; rfl
  · obtain ⟨z, rfl, hz, q⟩ := h
    refine ⟨_, (pss_cons (ps_if (pt_val (pe_bm PySem.F.plainAttrs_str PySem.F.slot_str_startswith PySem.F.type_str_startswith mt_startswith (pv 0) (pa_cons pe_str pa_nil))) (pss_one (ps_ret (pe_tup (pa_cons pe_str (pa_cons (pe_cal C_whole_in (hr.mono (by decide)) (pa_cons (pe_slice sl_str (pv 0) (po_some pe_int) po_none) pa_nil)) pa_nil))))) pss_nil)
      (pss_one (ps_ret (pe_tup (pa_cons pe_str (pa_cons (pe_cal C_whole_in (hr.mono (by decide)) (pa_cons (pv 0) pa_nil)) pa_nil)))))), ?_⟩
    have lz : (SX.S z).length ≤ sizeLine := by rw [SX.S_len, sizeLine_eq]; omega
    refine ⟨_, rfl, rfl, _, _, rfl, rfl, ?_⟩
    rw [show Txt.startswith (SX.S z) (Str.ofString "#") = decide (z.head? = some 35) from by rw [hash_S]; exact starts_S z 35]
    refine ⟨_, rfl, ifd (fun c => ?_) (fun c => ?_)⟩
    · refine ⟨_, rfl, _, rfl, _, rfl, lz, ?_⟩
      rw [cut1_S]
      refine ⟨_, rfl, by rw [List.length_tail]; omega, fun v hv => ⟨sz (by simp), fun p hp => ?_⟩⟩
      refine q _ _ (same_new hp) ?_
      unfold byIn
      rw [if_pos c]
      exact Dx.two (news_at hp upd_same) (.str _) (whole_any hv)
    · refine ⟨_, rfl, _, rfl, hz, fun v hv => ⟨sz (by simp), fun p hp => ?_⟩⟩
      refine q _ _ (same_new hp) ?_
      unfold byIn
      rw [if_neg c]
      exact Dx.two (news_at hp upd_same) (.str _) (whole_any hv)

def sp__rights_in (K : PySem.W.Frag) : Sp := fun vs H Q _ => ∃ z, vs = [.str (SX.S z)] ∧ ∀ v, Dx H v (rightsIn z) → Q v H
theorem ok__rights_in {f : Addr} {fd : FuncData} (F : Fun K "_rights_in" "_rights_in" s__rights_in f fd) (T : Txt K w mg) : FnOk P w K mg base CX0 1 f fd ["text"] (sp__rights_in K) := by
  refine F.ok sc__rights_in (fun vs H Q E h => ?_) (fun cdv A outer s H vs Q E hr h => ?_)
  · obtain ⟨z, rfl, q⟩ := h; rfl
  · obtain ⟨z, rfl, q⟩ := h
    refine ⟨_, (pss_cons (ps_if (pt_cmpR op_eq (pv 0) pe_str (nomark _)) (pss_one (ps_ret pe_non)) pss_nil)
      (pss_one (ps_ret (pe_ifExp (pt_cmpR op_eq (pv 0) pe_str (nomark _)) pe_str (pv 0))))), ?_⟩
    refine ⟨_, rfl, rfl, _, rfl, ifd (fun c => ?_) (fun c => ?_)⟩
    · have e : z = [] := SX.S_inj ((V.str.inj c).trans nil_S)
      refine q _ ?_
      unfold rightsIn
      rw [if_pos e]
      exact .non
    have n1 : ¬ z = [] := fun e => c (by rw [e]; exact congrArg V.str nil_S.symm)
    refine ⟨_, rfl, rfl, _, rfl, ifd (fun d => ?_) (fun d => ?_)⟩
    · have e : z = [45] := SX.S_inj ((V.str.inj d).trans minus_S)
      refine q _ ?_
      unfold rightsIn
      rw [if_neg n1, if_pos e, ← nil_S]
      exact .str _
    · refine ⟨_, rfl, q _ ?_⟩
      unfold rightsIn
      rw [if_neg n1, if_neg fun e => d (by rw [e]; exact congrArg V.str minus_S.symm)]
      exact .str _

def sp__part_in (K : PySem.W.Frag) : Sp := fun vs H Q _ => ∃ z k, vs = [.str (SX.S z), .str (Kind.nm k)] ∧ z.length ≤ 1000000 ∧ ∀ v H', Same H H' → Dx (news H H') v (partIn k z) → Q v H'
theorem ok__part_in {f : Addr} {fd : FuncData} (F : Fun K "_part_in" "_part_in" s__part_in f fd) (T : Txt K w mg) (C_whole_in : Cal P w K mg base "whole_in" 1 ["text"] (sp_whole_in K)) (C__by_in : Cal P w K mg base "_by_in" 2 ["text"] (sp__by_in K)) (C__rights_in : Cal P w K mg base "_rights_in" 1 ["text"] (sp__rights_in K)) : FnOk P w K mg base CX0 3 f fd ["text", "what"] (sp__part_in K) := by
  obtain ⟨p_NUMBERS, hc_NUMBERS, hs_NUMBERS⟩ := T.c_NUMBERS
  refine F.ok sc__part_in (fun vs H Q E h => ?_) (fun cdv A outer s H vs Q E hr h => ?_)
  · obtain ⟨z, k, rfl, hz, q⟩ := h; rfl
  · obtain ⟨z, k, rfl, hz, q⟩ := h
    refine ⟨_, (pss_cons (ps_if (pt_cmpR (r := rInTab K w) op_inTab (pv 1) (pe_glob (v := .ref p_NUMBERS) (by rfl) hc_NUMBERS rfl) (by rfl)) (pss_one (ps_ret (pe_cal C_whole_in (hr.mono (by decide)) (pa_cons (pv 0) pa_nil)))) pss_nil)
      (pss_cons (ps_if (pt_cmpR op_eq (pv 1) pe_str (nomark _)) (pss_one (ps_ret (pe_cal C__by_in (hr.mono (by decide)) (pa_cons (pv 0) pa_nil)))) pss_nil)
      (pss_cons (ps_if (pt_cmpR op_eq (pv 1) pe_str (nomark _)) (pss_one (ps_ret (pe_cal C__rights_in (hr.mono (by decide)) (pa_cons (pv 0) pa_nil)))) pss_nil)
      (pss_one (ps_ret (pv 0)))))), ?_⟩
    have e := nums_look K k
    refine ⟨_, rfl, _, _, _, rfl, rfl, hs_NUMBERS, _, rfl, ifb (fun c => ?_) (fun c => ?_)⟩
    · have n : ∃ p, numOf k = some p := by
        cases h : numOf k with
        | some p => exact ⟨p, rfl⟩
        | none => rw [h] at e; rw [e] at c; cases c
      have w : partIn k z = wholeIn z := by
        obtain ⟨p, h⟩ := n
        cases k <;> first | rfl | cases h
      refine ⟨_, rfl, _, rfl, hz, fun v hv => ?_⟩
      exact q v H (Same.refl _) (by rw [w]; exact whole_any hv)
    have n : numOf k = none := by
      cases h : numOf k with
      | none => rfl
      | some p => rw [h] at e; rw [e] at c; cases c
    refine ⟨_, rfl, rfl, _, rfl, ifd (fun d => ?_) (fun d => ?_)⟩
    · have kb : k = .by_ := by
        cases k <;> first | rfl | (cases n; done) | exact absurd (V.str.inj d) (by decide +kernel)
      subst kb
      refine ⟨_, rfl, _, rfl, hz, fun v H' s' hv => ?_⟩
      exact q v H' s' hv
    refine ⟨_, rfl, rfl, _, rfl, ifd (fun f => ?_) (fun f => ?_)⟩
    · have kb : k = .rights := by
        cases k <;> first | rfl | (cases n; done) | exact absurd (V.str.inj f) (by decide +kernel)
      subst kb
      refine ⟨_, rfl, _, rfl, fun v hv => ?_⟩
      exact q v H (Same.refl _) (rights_any hv)
    · have w : partIn k z = .str (SX.S z) := by
        cases k <;> first | rfl | (cases n; done) | exact absurd rfl d | exact absurd rfl f
      refine ⟨_, rfl, q _ H (Same.refl _) ?_⟩
      rw [w]
      exact .str _

def sp_row_in (K : PySem.W.Frag) : Sp := fun vs H Q _ => ∃ z, vs = [.str (SX.S z)] ∧ z.length ≤ 1000000 ∧ ∀ v H', Same H H' → Dx (news H H') v (rowIn z) → Q v H'
theorem ok_row_in {f : Addr} {fd : FuncData} (F : Fun K "row_in" "row_in" s_row_in f fd) (T : Txt K w mg) (C_is_row : Cal P w K mg base "is_row" 5 ["thing"] (sp_is_row K)) (C__part_in : Cal P w K mg base "_part_in" 3 ["text", "what"] (sp__part_in K)) : FnOk P w K mg base CX0 6 f fd ["line"] (sp_row_in K) := by
  obtain ⟨p_FORMS, hc_FORMS, hs_FORMS⟩ := T.c_FORMS
  obtain ⟨p_WORDS, hc_WORDS, hs_WORDS⟩ := T.c_WORDS
  refine F.ok sc_row_in (fun vs H Q E h => ?_) (fun cdv A outer s H vs Q E hr h => ?_)
  · obtain ⟨z, rfl, hz, q⟩ := h; rfl
  · obtain ⟨z, rfl, hz, q⟩ := h
    refine ⟨_, (pss_cons (ps_set (i := 1) sc_row_in.nd rfl (.inl rfl) (pe_bm PySem.F.plainAttrs_str PySem.F.slot_str_split PySem.F.type_str_split mt_split (pv 0) (pa_cons pe_str pa_nil)))
      (pss_cons (ps_if (pt_cmpR op_eq (pe_ix (r := rIxL K) ix_list (pv 1) pe_int (fun _ _ => rfl)) pe_str (nomark _)) (pss_one (ps_ret pe_non)) pss_nil)
      (C8.pss_cut (ps_if (pt_cmpR (r := rIn K false) op_in_seq (pe_ix (r := rIxL K) ix_list (pv 1) pe_int (fun _ _ => rfl)) (pe_ix (r := rIxD K w) ix_kdict (pe_glob (v := .ref p_WORDS) (by rfl) hc_WORDS rfl) pe_str (fun _ _ => rfl)) (by rfl)) (pss_one (ps_set (i := 1) sc_row_in.nd rfl (.inl rfl) (pe_lst (pa_cons pe_str (StX.pa_star (pv 1) pa_nil))))) pss_nil)
      (pss_cons (ps_asg (pv 1) (pg_tupS (n := 2) (i := 1) rfl (pgs_cons (pg_name (i := 2) sc_row_in.nd rfl (.inl rfl)) (pgs_star (pg_name (i := 3) sc_row_in.nd rfl (.inl rfl)) pgs_nil))))
      (pss_cons (ps_if (PW.pt (pw_or (pt_cmpR (r := rNotInTab K w) op_notInTab (pv 2) (pe_glob (v := .ref p_FORMS) (by rfl) hc_FORMS rfl) (by rfl)) (pw_or1 (pt_cmpR op_ne (pe_callB call_len_seq (by rfl) T.z_len (by decide +kernel) (pa_cons (pv 3) pa_nil)) (pe_callB call_len_seq (by rfl) T.z_len (by decide +kernel) (pa_cons (pe_ix (r := rIxD K w) ix_kdict (pe_glob (v := .ref p_FORMS) (by rfl) hc_FORMS rfl) (pv 2) (fun _ _ => rfl)) pa_nil)) (nomark _))))) (pss_one (ps_ret pe_non)) pss_nil)
      (pss_cons (ps_setLc (i := 6) (own := [("text", 4), ("what", 5)]) (g := gTup K 2 (gCons (gName 4) (gCons (gName 5) gNil))) rfl sc_row_in.nd rfl rfl (sw_true rfl rfl rfl (by decide +kernel)) (pi_zipG (k1 := .l) (k2 := .t) (by rfl) T.z_zip (pa_cons (pv 3) (pa_cons (pe_ix (r := rIxD K w) ix_kdict (pe_glob (v := .ref p_FORMS) (by rfl) hc_FORMS rfl) (pv 2) (fun _ _ => rfl)) pa_nil))) (blkOk_by (own := [("text", 4), ("what", 5)]) (N := ["line", "words", "word", "rest", "text", "what", "parts", "row"]) (sc := defScope s_row_in) (by decide +kernel)) (fun _ _ _ _ _ => by exact (pg_tup rfl (pgs_cons (pg_name (i := 4) sc_row_in.nd rfl (.inl rfl)) (pgs_cons (pg_name (i := 5) sc_row_in.nd rfl (.inl rfl)) pgs_nil)))) (fun _ _ _ _ _ => pts_nil) (fun _ _ _ _ _ => (pe_cal C__part_in (hr.mono (by decide)) (pa_cons (pv 4) (pa_cons (pv 5) pa_nil)))))
      (pss_cons (ps_set (i := 7) sc_row_in.nd rfl (.inl rfl) (pe_tup (pa_cons (pv 2) (StX.pa_star (pv 6) pa_nil))))
      (pss_one (ps_ret (pe_ifExp (pt_val (pe_cal C_is_row (hr.mono (by decide)) (pa_cons (pv 7) pa_nil))) (pv 7) pe_non)))))))))), ?_⟩
    have lz : (SX.S z).length + 2 ≤ sizeLine := by rw [SX.S_len, sizeLine_eq]; omega
    refine ⟨_, rfl, rfl, _, _, rfl, rfl, by decide +kernel, lz, fun p0 hp0 => ?_⟩
    rw [show Txt.split (SX.S z) (Str.ofString " ") = (TL.spl [32] 0 [] z).map SX.S from by rw [blank_S]; exact split_one 32 (by decide) z, List.map_map]
    have lw := spl_len 32 z []
    have lm := spl_mem 32 z []
    have ne := spl_ne 32 z []
    have ri : rowIn z = if (TL.spl [32] 0 [] z).head? = some doS.cps.toList then .none else rowOf (wordsIn (TL.spl [32] 0 [] z)) := rfl
    generalize TL.spl [32] 0 [] z = ws at lw lm ne ri ⊢
    obtain ⟨w0, r0, rfl⟩ : ∃ w0 r0, ws = w0 :: r0 := by
      cases ws with
      | nil => exact absurd rfl ne
      | cons a r => exact ⟨a, r, rfl⟩
    have S1 := same_new (o := .lst ((w0 :: r0).map (V.str ∘ SX.S))) hp0
    have e1 : (upd H p0 (.lst ((w0 :: r0).map (V.str ∘ SX.S)))) p0 = some (.lst ((w0 :: r0).map (V.str ∘ SX.S))) := upd_same
    generalize upd H p0 _ = H1 at S1 e1 ⊢
    refine ⟨_, rfl, p0, _, 0, _, rfl, rfl, .of e1, atI_nat (j := 0) rfl, rfl, _, rfl, ifd (fun c => ?_) (fun c => ?_)⟩
    · refine q .non H1 S1 ?_
      have hd : w0 = doS.cps.toList := by
        have := V.str.inj c
        exact congrArg (fun x : Str => x.cps.toList) this
      rw [ri, if_pos (by rw [hd]; rfl)]
      exact .non
    have nd : ¬ (w0 :: r0).head? = some doS.cps.toList := fun h => c (by
      have : w0 = doS.cps.toList := Option.some.inj h
      show V.str (SX.S w0) = V.str doS
      rw [this, S_back])
    rw [if_neg nd] at ri
    have e2 := words_look K .doing
    have hw : worded .doing = true := rfl
    rw [if_pos hw] at e2
    obtain ⟨v0, kd, q0, rfl, sq⟩ := hs_WORDS.dct e2
    refine ⟨fun σ G => ∃ p1 w1 r1, σ = [some (.str (SX.S z)), some (.ref p1), none, none, none, none, none, none] ∧ Same H G ∧ G p1 = some (.lst ((w1 :: r1).map (V.str ∘ SX.S))) ∧ rowIn z = rowOf (w1 :: r1) ∧ (∀ x ∈ r1, x.length ≤ z.length) ∧ r1.length ≤ z.length + 1, ?_, ?_⟩
    · refine ⟨_, rfl, p0, _, 0, _, rfl, rfl, .of e1, atI_nat (j := 0) rfl, p_WORDS, _, _, rfl, rfl, kd, q0, _, rfl, .inr (sq _), rfl, ?_, ?_⟩
      · rw [List.all_map]; exact List.all_eq_true.mpr fun _ _ => rfl
      have iv := inV_strs (SX.S w0) (wordsOf .doing)
      have iw : SX.S w0 ∈ wordsOf .doing ↔ (w0 :: r0).head?.getD [] ∈ (wordsOf .doing).map (fun s => s.cps.toList) := by
        show _ ↔ w0 ∈ _
        rw [List.mem_map]
        exact ⟨fun h => ⟨_, h, rfl⟩, fun ⟨s, hs, e⟩ => by rw [← e, S_back]; exact hs⟩
      refine ⟨_, rfl, ifb (fun d => ?_) (fun d => ?_)⟩
      · have d2 : SX.S w0 ∈ wordsOf .doing := by
          replace d : inV (.str (SX.S w0)) ((wordsOf .doing).map V.str) = true := d
          rw [iv] at d
          exact of_decide_eq_true d
        refine ⟨_, rfl, p0, _, rfl, .inr (.of e1), ?_, fun p1 hp1 => ?_⟩
        · rw [sizeLine_eq]
          simp only [List.length_cons, List.length_append, List.length_map, List.length_nil] at lw ⊢
          omega
        rw [List.append_nil]
        refine ⟨p1, doS.cps.toList, w0 :: r0, rfl, S1.trans (same_new hp1), upd_same, ?_, fun x hx => by have := lm x hx; simp only [List.length_nil] at this; omega, lw⟩
        rw [ri]
        unfold wordsIn
        rw [if_pos (iw.mp d2)]
      · have d2 : ¬ SX.S w0 ∈ wordsOf .doing := by
          replace d : inV (.str (SX.S w0)) ((wordsOf .doing).map V.str) = false := d
          rw [iv] at d
          exact of_decide_eq_false d
        refine ⟨p0, w0, r0, rfl, S1, e1, ?_, fun x hx => by have := lm x (List.mem_cons_of_mem _ hx); simp only [List.length_nil] at this; omega, by rw [List.length_cons] at lw; omega⟩
        rw [ri]
        unfold wordsIn
        rw [if_neg fun h => d2 (iw.mpr h)]
    clear ri nd c lw lm ne e1 S1 hp0
    clear H1
    rintro σ G ⟨p1, w1, r1, rfl, S1, e1, ri, lm, lw⟩
    refine ⟨_, rfl, p1, _, rfl, .inr (.of e1), by decide, ?_, fun P hP => ?_⟩
    · rw [List.length_map, List.length_cons]; omega
    have fP : (upd G P (.lst (r1.map (V.str ∘ SX.S)))) P = some (.lst (r1.map (V.str ∘ SX.S))) := upd_same
    have sm := S1.trans (same_new (o := .lst (r1.map (V.str ∘ SX.S))) hP)
    have t1 : (r1.map (V.str ∘ SX.S)).take (((w1 :: r1).map (V.str ∘ SX.S)).length + 1 - 2) = r1.map (V.str ∘ SX.S) := by
      rw [List.length_map, List.length_cons]; exact List.take_of_length_le (by rw [List.length_map]; omega)
    have t2 : (r1.map (V.str ∘ SX.S)).drop (((w1 :: r1).map (V.str ∘ SX.S)).length + 1 - 2) = [] := by
      rw [List.length_map, List.length_cons]; exact List.drop_of_length_le (by rw [List.length_map]; omega)
    show (gCons _ _) ([V.str (SX.S w1)] ++ [V.ref P] ++ (r1.map (V.str ∘ SX.S)).drop (((w1 :: r1).map (V.str ∘ SX.S)).length + 1 - 2)) _ (upd G P (.lst ((r1.map (V.str ∘ SX.S)).take (((w1 :: r1).map (V.str ∘ SX.S)).length + 1 - 2)))) _
    rw [t1, t2]
    clear t1 t2
    refine ⟨_, _, rfl, _, _, rfl, rfl, ?_⟩
    have fl := forms_look K (SX.S w1)
    have ro : rowOf (w1 :: r1) = match look formsK (SX.S w1) with
        | some ks => if r1.length = ks.length then (if rowD (.tuple (.str (SX.S w1) :: List.zipWith partIn ks r1)) = true then .tuple (.str (SX.S w1) :: List.zipWith partIn ks r1) else .none) else .none
        | none => .none := rfl
    refine ⟨_, rfl, _, _, _, rfl, rfl, hs_FORMS, _, rfl, ?_⟩
    cases hl : look formsK (SX.S w1) with
    | none =>
      rw [hl] at fl ro
      refine ifbT (by rw [fl]; rfl) ?_
      exact q .non _ sm (by rw [ri, ro]; exact .non)
    | some ks =>
      rw [hl] at fl ro
      replace ro : rowOf (w1 :: r1) = if r1.length = ks.length then (if rowD (.tuple (.str (SX.S w1) :: List.zipWith partIn ks r1)) = true then .tuple (.str (SX.S w1) :: List.zipWith partIn ks r1) else .none) else .none := ro
      have k4 := forms_len hl
      refine ifbF (by rw [fl]; rfl) ?_
      obtain ⟨v0, kd, q0, rfl, sq⟩ := hs_FORMS.dct fl
      refine ⟨_, rfl, P, _, rfl, .inl (.of fP), _, rfl, p_FORMS, _, _, rfl, rfl, kd, q0, _, rfl, .inr (sq _), ?_⟩
      refine ⟨rfl, _, rfl, ifnd (fun c4 => ?_) (fun c4 => ?_)⟩
      · refine q .non _ sm ?_
        rw [ri, ro, if_neg fun h => c4 (by rw [List.length_map, List.length_map, h])]
        exact .non
      have el : r1.length = ks.length := by
        have := V.int.inj c4
        rw [List.length_map, List.length_map] at this
        omega
      rw [if_pos el] at ro
      have hP' : H P = none := by
        cases e : H P with
        | none => rfl
        | some o => have := S1 _ _ e; rw [hP] at this; cases this
      generalize upd G P _ = G1 at sm fP ⊢
      refine ⟨_, rfl, _, rfl, p_FORMS, _, _, rfl, rfl, kd, .ref P, .ref q0, _, _, rfl, .of fP, sq _, fun D hD => ?_⟩
      have gD : (upd G1 D (.lst [])) D = some (.lst []) := upd_same
      refine lc_it (walk_zipG (K := K) (k1 := .l) (k2 := .t) (v1 := .ref P) (v2 := .ref q0) (n := ks.length) (xs := r1.map (V.str ∘ SX.S)) (ys := ks.map fun k : Kind => V.str (Kind.nm k)) (by rw [List.length_map, List.length_map, el, Nat.min_self])) (fun i H' => ∃ vs, Same G1 H' ∧ H' D = some (.lst vs) ∧ vs.length = i ∧ DxAll (news (upd G1 D (.lst [])) H') vs (List.zipWith partIn (ks.take i) (r1.take i))) ⟨[], same_new hD, upd_same, rfl, .nil⟩ (fun i H' _ h => ?_) ?_ ?_
      · obtain ⟨_, h1, _⟩ := h
        exact ⟨SqL.of (h1 _ _ fP), sq H'⟩
      · rintro i x H3 H4 hi ⟨vs, sm2, hl2, len2, dx2⟩ ⟨Tp, y1, y2, rfl, hn, rfl, hy1, hy2⟩
        have nD : D ≠ Tp := ne_of_none hl2 hn
        obtain ⟨zi, hzi, rfl⟩ : ∃ zi, r1[i]? = some zi ∧ y1 = V.str (SX.S zi) := by
          replace hy1 : (r1.map (V.str ∘ SX.S))[i]? = some y1 := hy1
          rw [List.getElem?_map] at hy1
          cases e : r1[i]? with
          | none => rw [e] at hy1; cases hy1
          | some k => rw [e] at hy1; exact ⟨k, rfl, (Option.some.inj hy1).symm⟩
        obtain ⟨k, hk, rfl⟩ : ∃ k, ks[i]? = some k ∧ y2 = V.str k.nm := by
          replace hy2 : (ks.map fun k : Kind => V.str (Kind.nm k))[i]? = some y2 := hy2
          rw [List.getElem?_map] at hy2
          cases e : ks[i]? with
          | none => rw [e] at hy2; cases hy2
          | some k => rw [e] at hy2; exact ⟨k, rfl, (Option.some.inj hy2).symm⟩
        have smT := same_new (o := .tup [V.str (SX.S zi), V.str k.nm]) hn
        refine ⟨Tp, _, rfl, .of upd_same, rfl, _, _, rfl, _, _, rfl, rfl, rfl, ?_⟩
        refine ⟨_, rfl, _, rfl, zi, k, rfl, Nat.le_trans (lm zi (List.mem_of_getElem? hzi)) hz, fun v H5 s5 hv => ?_⟩
        have h5 : H5 D = some (.lst vs) := s5 _ _ (smT _ _ hl2)
        have s35 : Same H3 H5 := smT.trans s5
        have dom : ∀ b, (upd H3 Tp (.tup [V.str (SX.S zi), V.str k.nm])) b = none → (upd G1 D (.lst [])) b = none := fun b n => by
          have nT : b ≠ Tp := fun z => by rw [z, upd_same] at n; cases n
          rw [upd_ne nT] at n
          have nb : b ≠ D := fun z => by rw [z, hl2] at n; cases n
          rw [upd_ne nb]
          cases e : G1 b with
          | none => rfl
          | some o => have := sm2 _ _ e; rw [n] at this; cases this
        refine ⟨_, h5, by rw [len2, sizeLine_eq]; omega, vs ++ [v], ?_, upd_same, by rw [List.length_append, len2]; rfl, ?_⟩
        · exact fun b o e => by
            rw [upd_ne (ne_of_none e hD)]
            exact s35 _ _ (sm2 b o e)
        · rw [zip_take partIn hk hzi]
          refine (DxAll.snoc (dx2.same fun b o e => ?_) (hv.same (news_mono dom))).same (news_upd gD)
          obtain ⟨n, e⟩ := news_of e
          exact news_at n (s35 _ _ e)
      · rintro H3 ⟨vs, sm2, hl2, len2, dx2⟩
        rw [List.take_length, ← el, List.take_length] at dx2
        have domH : ∀ b, (upd G1 D (.lst [])) b = none → H b = none := fun b n => by
          have nb : b ≠ D := fun z => by rw [z, upd_same] at n; cases n
          rw [upd_ne nb] at n
          cases e : H b with
          | none => rfl
          | some o => have := sm _ _ e; rw [n] at this; cases this
        have dxH := dx2.same (news_mono domH)
        have smH := sm.trans sm2
        refine ⟨_, rfl, _, rfl, D, _, rfl, .inr (.of hl2), ?_, fun T1 hT => ?_⟩
        · rw [sizeLine_eq]
          simp only [List.length_cons, List.length_append, List.length_nil]
          omega
        rw [List.append_nil]
        have hT0 : H T1 = none := by
          cases e : H T1 with
          | none => rfl
          | some o => have := smH _ _ e; rw [hT] at this; cases this
        have sT := same_new (o := .tup (V.str (SX.S w1) :: vs)) hT
        have dT : Dx (news H (upd H3 T1 (.tup (V.str (SX.S w1) :: vs)))) (.ref T1) (.tuple (.str (SX.S w1) :: List.zipWith partIn ks r1)) := .tup (news_at hT0 upd_same) (.cons (.str _) (dxH.same fun b o e => by
          obtain ⟨n, e⟩ := news_of e
          exact news_at n (sT _ _ e)))
        refine ⟨_, rfl, _, _, rfl, dT.same (news_same _ _), fun H6 s6 => ⟨_, rfl, ifb (fun c => ?_) (fun c => ?_)⟩⟩
        · refine ⟨_, rfl, q _ _ ((smH.trans sT).trans s6) ?_⟩
          rw [ri, ro, if_pos c]
          refine dT.same fun b o e => ?_
          obtain ⟨n, e⟩ := news_of e
          exact news_at n (s6 _ _ e)
        · refine q .non _ ((smH.trans sT).trans s6) ?_
          rw [ri, ro, if_neg (by rw [c]; exact Bool.false_ne_true)]
          exact .non

def sp_read_rows (K : PySem.W.Frag) : Sp := fun vs H Q E => ∃ v d, vs = [v] ∧ Dx H v d ∧ (∀ s, d = .str s → s.cps.toList.length ≤ 1000000) ∧ (∀ rs, readD d = .inr rs → ∀ p H', Same H H' → H p = none → Dx H' (.ref p) (.list rs) → Q (.ref p) H') ∧ (∀ n, readD d = .inl n → LetsV K "NoText" "number" (numV n) H E)
theorem ok_read_rows {f : Addr} {fd : FuncData} (F : Fun K "read_rows" "read_rows" s_read_rows f fd) (T : Txt K w mg) (C_row_in : Cal P w K mg base "row_in" 6 ["line"] (sp_row_in K)) (R_NoText : ErrK P w K mg base "NoText" "number") : FnOk P w K mg base (L2.CX P w) 7 f fd ["text"] (sp_read_rows K) := by
  obtain ⟨t_MOST_ROWS, hc_MOST_ROWS⟩ := T.c_MOST_ROWS
  refine F.okX sc_read_rows (fun vs H Q E h => ?_) (fun cdv A outer s H vs Q E hr h => ?_)
  · obtain ⟨v, d, rfl, hd, hs, q, bad⟩ := h; rfl
  · obtain ⟨v, d, rfl, hd, hs, q, bad⟩ := h
    refine ⟨_, (pss_cons (ps_if (pt_not (pt_val (pe_callB call_isi (by rfl) T.z_isinstance (by decide +kernel) (pa_cons (pv 0) (pa_cons (pe_bltn (v := .ty "str") (by rfl) T.z_str (by decide +kernel) rfl) pa_nil))))) (pss_one (ps_raise rfl (takes_of rfl rfl rfl rfl) (by exact (pmk_err R_NoText (hr.mono (by decide)) pe_non)))) pss_nil)
      (pss_cons (ps_setLc (i := 2) (own := [("line", 1)]) rfl sc_read_rows.nd rfl rfl (sw_true rfl rfl rfl (by decide +kernel)) (pi_list (pe_bm PySem.F.plainAttrs_str PySem.F.slot_str_split PySem.F.type_str_split mt_split (pv 0) (pa_cons pe_str pa_nil))) (blkOk_by (own := [("line", 1)]) (N := ["text", "line", "rows"]) (sc := defScope s_read_rows) (by decide +kernel)) (fun _ _ _ _ _ => (pg_name (i := 1) sc_read_rows.nd rfl (.inl rfl))) (fun _ _ _ _ _ => pts_nil) (fun _ _ _ _ _ => (pe_cal C_row_in (hr.mono (by decide)) (pa_cons (pv 1) pa_nil))))
      (pss_cons (ps_if (pt_cmpR (r := rInD K) (op_inD (hu65 hr)) pe_non (pv 2) (by rfl)) (pss_one (ps_raise rfl (takes_of rfl rfl rfl rfl) (by exact (pmk_err R_NoText (hr.mono (by decide)) (pe_bm PySem.F.plainAttrs_list PySem.F.slot_list_index PySem.F.type_list_index (mt_indexD (hu65 hr)) (pv 2) (pa_cons pe_non pa_nil)))))) pss_nil)
      (pss_cons (ps_if (pt_cmpR op_gt (pe_callB call_len_seq (by rfl) T.z_len (by decide +kernel) (pa_cons (pv 2) pa_nil)) (pe_glob (v := .int 64) (by rfl) hc_MOST_ROWS ⟨_, rfl⟩) (nomark _)) (pss_one (ps_raise rfl (takes_of rfl rfl rfl rfl) (by exact (pmk_err R_NoText (hr.mono (by decide)) pe_non)))) pss_nil)
      (PSs.nox (pss_one (ps_ret (pv 2)))))))), ?_⟩
    obtain ⟨t, ty, kt⟩ := hd.str? (K := K)
    refine ⟨_, rfl, _, _, t, _, dStr d, rfl, .ty "str", ty, kt, dStr d, rfl, ifnb (fun c => ?_) (fun c => ?_)⟩
    · have e : readD d = .inl none := by cases d <;> first | rfl | cases c
      exact fun C x hC hx => bad none e C x _ hC (Same.refl _) hx
    obtain ⟨s0, rfl⟩ : ∃ s, d = .str s := by cases d <;> first | exact ⟨_, rfl⟩ | cases c
    cases hd.str_of
    obtain ⟨z, rfl⟩ : ∃ z, s0 = SX.S z := ⟨s0.cps.toList, (S_back s0).symm⟩
    have hz : z.length ≤ 1000000 := hs _ rfl
    have lz : (SX.S z).length + 2 ≤ sizeLine := by rw [SX.S_len, sizeLine_eq]; omega
    refine ⟨_, rfl, rfl, _, _, rfl, rfl, by decide +kernel, lz, fun p0 hp0 => ?_⟩
    rw [show Txt.split (SX.S z) (Str.ofString "\n") = (TL.spl [10] 0 [] z).map SX.S from by rw [nl_S]; exact split_one 10 (by decide) z, List.map_map]
    have lw := spl_len 10 z []
    have lm := spl_mem 10 z []
    have sh := lines_shaped z
    have rdz : readD (.str (SX.S z)) = match badLine (linesIn z) with
        | some j => .inl (some j)
        | none => if (linesIn z).length > 64 then .inl none else .inr (linesIn z) := rfl
    have lin : linesIn z = (TL.spl [10] 0 [] z).map rowIn := rfl
    generalize linesIn z = rs at sh rdz lin
    generalize TL.spl [10] 0 [] z = ws at lw lm lin ⊢
    have S1 := same_new (o := .lst (ws.map (V.str ∘ SX.S))) hp0
    have e1 : (upd H p0 (.lst (ws.map (V.str ∘ SX.S)))) p0 = some (.lst (ws.map (V.str ∘ SX.S))) := upd_same
    generalize upd H p0 _ = H1 at S1 e1 ⊢
    refine ⟨p0, rfl, ⟨_, .of e1⟩, fun D hD => ?_⟩
    have gD : (upd H1 D (.lst [])) D = some (.lst []) := upd_same
    refine lc_list (K := K) (a := p0) (xs := ws.map (V.str ∘ SX.S)) (fun i H' => ∃ vs, Same H1 H' ∧ H' D = some (.lst vs) ∧ vs.length = i ∧ DxAll (news (upd H1 D (.lst [])) H') vs ((ws.take i).map rowIn)) ⟨[], same_new hD, upd_same, rfl, .nil⟩ (fun i H' _ h => ?_) ?_ ?_
    · obtain ⟨_, h1, _⟩ := h
      exact .of (h1 _ _ e1)
    · rintro i x H3 hi ⟨vs, sm2, hl2, len2, dx2⟩
      obtain ⟨zi, hzi, rfl⟩ : ∃ zi, ws[i]? = some zi ∧ x = V.str (SX.S zi) := by
        rw [List.getElem?_map] at hi
        cases e : ws[i]? with
        | none => rw [e] at hi; cases hi
        | some k => rw [e] at hi; exact ⟨k, rfl, (Option.some.inj hi).symm⟩
      have il : i < ws.length := (List.getElem?_eq_some_iff.mp hzi).1
      refine ⟨rfl, ?_⟩
      refine ⟨_, rfl, zi, rfl, ?_, fun v H5 s5 hv => ?_⟩
      · have := lm zi (List.mem_of_getElem? hzi)
        simp only [List.length_nil] at this
        omega
      have h5 : H5 D = some (.lst vs) := s5 _ _ hl2
      have dom : ∀ b, H3 b = none → (upd H1 D (.lst [])) b = none := fun b n => by
        have nb : b ≠ D := fun z => by rw [z, hl2] at n; cases n
        rw [upd_ne nb]
        cases e : H1 b with
        | none => rfl
        | some o => have := sm2 _ _ e; rw [n] at this; cases this
      refine ⟨_, h5, by rw [len2, sizeLine_eq]; omega, vs ++ [v], ?_, upd_same, by rw [List.length_append, len2]; rfl, ?_⟩
      · exact fun b o e => by
          rw [upd_ne (ne_of_none e hD)]
          exact s5 _ _ (sm2 b o e)
      · rw [List.take_add_one, hzi, List.map_append]
        refine (DxAll.snoc (dx2.same fun b o e => ?_) (hv.same (news_mono dom))).same (news_upd gD)
        obtain ⟨n, e⟩ := news_of e
        exact news_at n (s5 _ _ e)
    rintro H3 ⟨vs, sm2, hl2, len2, dx2⟩
    rw [List.length_map, List.take_length, ← lin] at dx2
    have hD0 : H D = none := by
      cases e : H D with
      | none => rfl
      | some o => have := S1 _ _ e; rw [hD] at this; cases this
    have dL : Dx H3 (.ref D) (.list rs) := .lst hl2 (dx2.same (news_same _ _))
    have smH := S1.trans sm2
    have nd : PyData.hasDict (.list rs) = false := by
      have := sh
      unfold SeqAt.shaped at this
      rw [Bool.and_eq_true] at this
      exact lay_nodict this.1
    have dp := dL.dp (K := K) nd
    have sn : SeqAt.shaped PyData.none = true := (nice_none (n := 0) (k := 0)).shaped (by decide)
    refine ⟨_, rfl, .none, rs, .non, dp, sn, sh, _, rfl, ?_⟩
    rw [none_in]
    cases hb : badLine rs with
    | some j =>
      refine ifbT rfl ?_
      rw [hb] at rdz
      obtain ⟨jl, j1, j2⟩ := List.findIdx?_eq_some_iff_getElem.mp hb
      refine ⟨_, rfl, .inl ⟨rfl, _, .of hl2⟩, D, .non, .none, rs, j, rs[j], rfl, rfl, dp, .non, sh, sn, List.getElem?_eq_getElem jl, by rw [eqv_non]; exact j1, fun m z' hm hz' => ?_, fun C d hC hd => ?_⟩
      · rw [eqv_non]
        obtain ⟨ml, rfl⟩ := List.getElem?_eq_some_iff.mp hz'
        have := j2 m hm
        simpa using this
      · exact bad (some j) rdz C d _ hC smH hd
    | none =>
      rw [hb] at rdz
      refine ifbF rfl ?_
      have lr : vs.length = rs.length := dx2.length
      refine ⟨_, rfl, D, _, rfl, .inl (.of hl2), _, _, rfl, rfl, _, rfl, ifd (fun c => ?_) (fun c => ?_)⟩
      · exact fun C d hC hd => bad none (by rw [rdz]; exact if_pos (by omega)) C d _ hC smH hd
      · exact ⟨_, rfl, q rs (by rw [rdz]; exact if_neg (by omega)) D H3 smH hD0 dL⟩

def sp__law_shown_part (K : PySem.W.Frag) : Sp := fun vs H Q _ => ∃ v d k, vs = [.str (one (Kind.sg k)), v] ∧ Dx H v d ∧ partD k d = true ∧ Q (.str (SX.S (partL k d))) H
theorem ok__law_shown_part {f : Addr} {fd : FuncData} (F : Fun K "_law_shown_part" "_law_shown_part" s__law_shown_part f fd) (T : Txt K w mg) : FnOk P w K mg base CX0 1 f fd ["_law_sort", "_law_thing"] (sp__law_shown_part K) := by
  refine F.ok sc__law_shown_part (fun vs H Q E h => ?_) (fun cdv A outer s H vs Q E hr h => ?_)
  · obtain ⟨v, d, k, rfl, hd, ok, q⟩ := h; rfl
  · obtain ⟨v, d, k, rfl, hd, ok, q⟩ := h
    refine ⟨_, (pss_cons (ps_if (pt_cmpR op_eq (pv 0) pe_str (nomark _)) (pss_one (ps_ret (pe_op op_add_str (pe_op op_mulS pe_str (pe_callTy call_int1 (by rfl) T.z_int (by decide +kernel) (pa_cons (pe_cmpR op_eq (pe_ix (r := rIxT K) ix_tup (pv 1) pe_int (fun _ _ => rfl)) pe_str (nomark _)) pa_nil))) (pe_callTy call_strIS (by rfl) T.z_str (by decide +kernel) (pa_cons (pe_ix (r := rIxT K) ix_tup (pv 1) pe_int (fun _ _ => rfl)) pa_nil))))) pss_nil)
      (pss_cons (ps_if (PW.pt (pw_and (pt_cmpR op_eq (pv 0) pe_str (nomark _)) (pw_and1 (pt_cmpR (r := rEqD K) (op_eqD hr.units) (pv 1) pe_str (nomark _))))) (pss_one (ps_ret pe_str)) pss_nil)
      (pss_one (ps_ret (pe_callTy call_strIS (by rfl) T.z_str (by decide +kernel) (pa_cons (pv 1) pa_nil)))))), ?_⟩
    obtain ⟨e1, e2, e3, e4, e5, e6, e7, e8, e9⟩ := sg_one
    by_cases kb : k = .by_
    · subst kb
      obtain ⟨w, i, rfl, wi⟩ := byD_is ok
      obtain ⟨p, xs, rfl, hp, hx⟩ := hd.tup_of
      obtain ⟨x1, x2, rfl⟩ : ∃ x1 x2, xs = [x1, x2] := by
        cases hx with
        | cons a r => cases r with
          | cons b r => cases r; exact ⟨_, _, rfl⟩
      obtain ⟨h1, h2⟩ : Dx H x1 (.str w) ∧ Dx H x2 (.int i) := by
        cases hx with
        | cons a r => cases r with
          | cons b r => exact ⟨a, b⟩
      cases h1.str_of
      cases h2.int_of
      have lg : i.natAbs.log2 < 1920 := log_small (by omega)
      have ln := numI_len (i := i) (k := 6) (by decide) (by omega)
      refine ⟨_, rfl, rfl, _, rfl, ifd (fun _ => ?_) (fun c => absurd (congrArg V.str e5) c)⟩
      refine ⟨_, rfl, p, _, 0, _, rfl, rfl, .of hp, atI_nat (j := 0) rfl, rfl, ?_⟩
      by_cases c : w = Kind.worth.nm
      · have e : partL .by_ (.tuple [.str w, .int i]) = 35 :: numI i := if_pos c
        have dc : decide (V.str w = V.str (Str.ofString "worth")) = true := decide_eq_true (congrArg V.str c)
        rw [dc]
        refine .inr ⟨_, rfl, ?_⟩
        refine ⟨[35], 1, by rw [hash_S], rfl, by decide, by decide, by decide, ?_⟩
        refine ⟨_, rfl, p, _, 1, _, rfl, rfl, .of hp, atI_nat (j := 1) rfl, .inl ⟨_, rfl, lg, ?_⟩⟩
        rw [num_text]
        refine ⟨_, _, rfl, rfl, ?_, ?_⟩
        · rw [SX.S_len, sizeLine_eq, SX.S_len]
          show 1 + _ ≤ _
          omega
        · rw [SX.S_cat]
          rw [e] at q
          exact q
      · have e : partL .by_ (.tuple [.str w, .int i]) = numI i := if_neg c
        have dc : decide (V.str w = V.str (Str.ofString "worth")) = false := decide_eq_false fun h => c (V.str.inj h)
        rw [dc]
        refine .inr ⟨_, rfl, ?_⟩
        refine ⟨[35], 0, by rw [hash_S], rfl, by decide, by decide, by decide, ?_⟩
        refine ⟨_, rfl, p, _, 1, _, rfl, rfl, .of hp, atI_nat (j := 1) rfl, .inl ⟨_, rfl, lg, ?_⟩⟩
        rw [num_text]
        refine ⟨_, _, rfl, rfl, ?_, ?_⟩
        · rw [SX.S_len, sizeLine_eq, SX.S_len]
          show 0 + _ ≤ _
          omega
        · rw [SX.S_cat]
          rw [e] at q
          exact q
    refine ⟨_, rfl, rfl, _, rfl, ifd (fun c => absurd (Eq.trans c (congrArg V.str e5.symm)) (sgS_ne (sg_by kb))) (fun _ => ?_)⟩
    have fin : d ≠ .str (Str.ofString "") → (∃ i, [v] = [V.int i] ∧ i.natAbs.log2 < 1920 ∧ Q (.str (Str.ofString (toString i))) H) ∨ ∃ a, [v] = [V.str a] ∧ Q (.str a) H := fun c => by
      rcases part_kind ok kb with ⟨i, rfl, hi, e⟩ | ⟨s', rfl, n, e⟩ | ⟨e, _⟩
      · cases hd.int_of
        refine .inl ⟨_, rfl, log_small (by omega), ?_⟩
        rw [num_text]
        rw [e] at q
        exact q
      · cases hd.str_of
        refine .inr ⟨_, rfl, ?_⟩
        rw [e, S_back] at q
        exact q
      · exact absurd e c
    by_cases kr : k = .rights
    · subst kr
      have ns : Nice 0 0 (.str (Str.ofString "")) := nice_lit (by decide +kernel)
      refine ⟨_, rfl, rfl, _, rfl, ifd (fun _ => ?_) (fun c => absurd (congrArg V.str e6) c)⟩
      refine ⟨_, rfl, d, .str (Str.ofString ""), hd.dp (part_nice ok).nd, .str _, (part_nice ok).shaped (by decide), ns.shaped (by decide), _, rfl, ifb (fun c => ?_) (fun c => ?_)⟩
      · have c' := eqv_empty.mp c
        rcases part_kind ok kb with ⟨i, e, _⟩ | ⟨s', e, n, _⟩ | ⟨_, e⟩
        · rw [e] at c'; cases c'
        · rw [e] at c'; exact absurd (PyData.str.inj c') n
        · rw [e, ← minus_S] at q
          exact q
      · exact ⟨_, rfl, fin fun h => by rw [eqv_empty.mpr h] at c; cases c⟩
    · refine ⟨_, rfl, rfl, _, rfl, ifd (fun c => absurd (Eq.trans c (congrArg V.str e6.symm)) (sgS_ne (sg_ri kr))) (fun _ => ?_)⟩
      refine ⟨_, rfl, fin fun h => ?_⟩
      rcases part_kind ok kb with ⟨i, e, _⟩ | ⟨s', e, n, _⟩ | ⟨e, e'⟩
      · rw [e] at h; cases h
      · rw [e] at h; exact n (PyData.str.inj h)
      · subst e
        cases k <;> first | exact absurd rfl kr | cases ok | (exact absurd ok (by decide +kernel))

def sp__law_line (K : PySem.W.Frag) : Sp := fun vs H Q _ => ∃ v d, vs = [v] ∧ Dx H v d ∧ rowD d = true ∧ ∀ H', Same H H' → Q (.str (SX.S (rowL d))) H'
theorem ok__law_line {f : Addr} {fd : FuncData} (F : Fun K "_law_line" "_law_line" s__law_line f fd) (T : Txt K w mg) (C__law_forms : Cal P w K mg base "_law_forms" 1 [] (sp__law_forms K)) (C__law_shown_part : Cal P w K mg base "_law_shown_part" 1 ["_law_sort", "_law_thing"] (sp__law_shown_part K)) : FnOk P w K mg base CX0 2 f fd ["_law_row_here"] (sp__law_line K) := by
  refine F.ok sc__law_line (fun vs H Q E h => ?_) (fun cdv A outer s H vs Q E hr h => ?_)
  · obtain ⟨v, d, rfl, hd, ok, q⟩ := h; rfl
  · obtain ⟨v, d, rfl, hd, ok, q⟩ := h
    refine ⟨_, (pss_cons (ps_setLc (i := 3) (own := [("_law_sort", 1), ("_law_one", 2)]) (g := gTup K 2 (gCons (gName 1) (gCons (gName 2) gNil))) rfl sc__law_line.nd rfl rfl (sw_true rfl rfl rfl (by decide +kernel)) (pi_zipG (k1 := .s) (k2 := .t) (by rfl) T.z_zip (pa_cons (pe_dget (hu_of hr) (pe_cal0 C__law_forms (hr.mono (by decide))) (pe_ix (r := rIxT K) ix_tup (pv 0) pe_int (fun _ _ => rfl)) (fun _ _ => rfl)) (pa_cons (pe_slice sl_tup (pv 0) (po_some pe_int) po_none) pa_nil))) (blkOk_by (own := [("_law_sort", 1), ("_law_one", 2)]) (N := ["_law_row_here", "_law_sort", "_law_one", "_law_parts"]) (sc := defScope s__law_line) (by decide +kernel)) (fun _ _ _ _ _ => by exact (pg_tup rfl (pgs_cons (pg_name (i := 1) sc__law_line.nd rfl (.inl rfl)) (pgs_cons (pg_name (i := 2) sc__law_line.nd rfl (.inl rfl)) pgs_nil)))) (fun _ _ _ _ _ => pts_nil) (fun _ _ _ _ _ => (pe_cal C__law_shown_part (hr.mono (by decide)) (pa_cons (pv 1) (pa_cons (pv 2) pa_nil)))))
      (pss_one (ps_ret (pe_join pe_str (pe_op op_cat (pe_op op_rep (pe_lst (pa_cons (pe_ix (r := rIxT K) ix_tup (pv 0) pe_int (fun _ _ => rfl)) pa_nil)) (pe_callTy call_int1 (by rfl) T.z_int (by decide +kernel) (pa_cons (pe_cmpR op_ne (pe_ix (r := rIxT K) ix_tup (pv 0) pe_int (fun _ _ => rfl)) pe_str (nomark _)) pa_nil))) (pv 3)))))), ?_⟩
    obtain ⟨w', ks, ps, rfl, hl, hp⟩ := row_form ok
    obtain ⟨_, rcod, rlen, _⟩ := row_parts ok
    have k4 := forms_len hl
    have pl := partsD_len hp
    obtain ⟨p, xs, rfl, hp0, hx⟩ := hd.tup_of
    obtain ⟨x1, xr, rfl, h1, hr'⟩ : ∃ x1 xr, xs = x1 :: xr ∧ Dx H x1 (.str w') ∧ DxAll H xr ps := by
      cases hx with
      | cons a r => exact ⟨_, _, rfl, a, r⟩
    cases h1.str_of
    refine ⟨rfl, fun p1 H1 S1 hp1 e1 => ?_⟩
    have hp2 := S1 _ _ hp0
    have dg : DGet H1 p1 (.str w') (some (.str (sgs ks))) := by
      have := DGet.k (k := Sum.inr w') e1
      rw [formsV_val, hl] at this
      exact this
    refine ⟨_, rfl, p, _, 0, _, rfl, rfl, .of hp2, atI_nat (j := 0) rfl, p1, _, rfl, dg, ?_⟩
    refine ⟨_, rfl, _, rfl, p, _, rfl, .of hp2, ?_, fun p2 hp3 => ?_⟩
    · rw [show HT.sIx (V.str w' :: xr).length 0 (some 1) = min 1 (V.str w' :: xr).length from HT.sIx_nat _ _ 1, List.length_cons]
      omega
    rw [show cutV (V.str w' :: xr) (some 1) none = xr from cut_tail' (i := 1) (by rw [List.length_cons]; omega)]
    have s3 := same_new (o := .tup xr) hp3
    have f3 : (upd H1 p2 (.tup xr)) p2 = some (.tup xr) := upd_same
    have sm := S1.trans s3
    have hr3 := hr'.same sm
    replace hp2 := s3 _ _ hp2
    generalize upd H1 p2 _ = G at f3 hr3 sm hp2 ⊢
    refine ⟨.str (sgs ks), .ref p2, signs (sgs ks), xr, rfl, rfl, .of f3, fun D hD => ?_⟩
    have elx : xr.length = ks.length := by rw [hr'.length, pl]
    have zl : (List.zipWith partL ks ps).length = ks.length := by rw [List.length_zipWith, pl, Nat.min_self]
    refine lc_it (walk_zipG (K := K) (k1 := .s) (k2 := .t) (v1 := .str (sgs ks)) (v2 := .ref p2) (n := ks.length) (xs := signs (sgs ks)) (ys := xr) (by rw [signs_sgsX, List.length_map, elx, Nat.min_self])) (fun i H' => Same G H' ∧ H' D = some (.lst ((List.zipWith partL (ks.take i) (ps.take i)).map (V.str ∘ SX.S)))) ⟨same_new hD, upd_same⟩ (fun i H' _ h => ⟨rfl, SqT.of (h.1 _ _ f3)⟩) ?_ ?_
    · rintro i x H3 H4 hi ⟨sm2, hl2⟩ ⟨Tp, y1, y2, rfl, hn, rfl, hy1, hy2⟩
      have nD : D ≠ Tp := ne_of_none hl2 hn
      obtain ⟨di, hdi, hxi⟩ := hr3.at hy2
      obtain ⟨k, hk, rfl⟩ : ∃ k, ks[i]? = some k ∧ y1 = V.str (one k.sg) := by
        replace hy1 : (signs (sgs ks))[i]? = some y1 := hy1
        rw [signs_sgsX, List.getElem?_map] at hy1
        cases e : ks[i]? with
        | none => rw [e] at hy1; cases hy1
        | some k => rw [e] at hy1; exact ⟨k, rfl, (Option.some.inj hy1).symm⟩
      have okp : partD k di = true := parts_at hp hk hdi
      refine ⟨Tp, _, rfl, .of upd_same, rfl, _, _, rfl, _, _, rfl, rfl, rfl, ?_⟩
      refine ⟨_, rfl, _, rfl, y2, di, k, rfl, (hxi.same sm2).same (same_new hn), okp, ?_⟩
      refine ⟨_, by rw [upd_ne nD]; exact hl2, ?_, ?_, ?_⟩
      · rw [List.length_map, List.length_zipWith, List.length_take, List.length_take, sizeLine_eq]; omega
      · exact fun b o e => by
          rw [upd_ne (ne_of_none e hD)]
          exact same_new hn _ _ (sm2 b o e)
      · rw [upd_same, zip_take partL hk hdi, List.map_append]; rfl
    rintro H3 ⟨sm2, hl2⟩
    rw [List.take_length, ← pl, List.take_length] at hl2
    replace hp2 := sm2 _ _ hp2
    replace sm := sm.trans sm2
    clear sm2 hr3 f3 hD hp3 s3 dg e1 S1
    have rp : rowParts (.tuple (.str w' :: ps)) = (if w' = doS then [] else [w'.cps.toList]) ++ List.zipWith partL ks ps := by
      show _ ++ List.zipWith partL ((look formsK w').getD []) ps = _
      rw [hl]; rfl
    have bd : 10 * (rowParts (.tuple (.str w' :: ps))).length + (rowParts (.tuple (.str w' :: ps))).length * [32].length ≤ 16777216 := by
      show 10 * _ + _ * 1 ≤ _
      omega
    refine ⟨⟨_, rfl⟩, _, rfl, p, _, 0, _, rfl, rfl, .of hp2, atI_nat (j := 0) rfl, sz (by simp), fun L hL => ?_⟩
    have s4 := same_new (o := .lst [V.str w']) hL
    have eL : (upd H3 L (.lst [V.str w'])) L = some (.lst [V.str w']) := upd_same
    replace hp2 := s4 _ _ hp2
    replace hl2 := s4 _ _ hl2
    replace sm := sm.trans s4
    generalize upd H3 L _ = G4 at eL hp2 hl2 sm ⊢
    refine ⟨_, rfl, p, _, 0, _, rfl, rfl, .of hp2, atI_nat (j := 0) rfl, rfl, ?_⟩
    by_cases c : w' = doS
    · rw [if_pos c, List.nil_append] at rp
      have dc : (!decide (V.str w' = V.str (Str.ofString "do"))) = false := by
        have ev : V.str w' = V.str (Str.ofString "do") := congrArg V.str c
        rw [decide_eq_true ev]; rfl
      rw [dc]
      refine .inr ⟨_, rfl, ?_⟩
      refine ⟨L, 0, _, rfl, rfl, eL, by decide, by decide, by simp, fun p5 hp5 => ?_⟩
      have s5 := same_new (o := .lst (List.replicate (0 : Int).toNat [V.str w']).flatten) hp5
      have e5 : (upd G4 p5 (.lst (List.replicate (0 : Int).toNat [V.str w']).flatten)) p5 = some (.lst []) := upd_same
      replace hl2 := s5 _ _ hl2
      replace sm := sm.trans s5
      generalize upd G4 p5 _ = G5 at e5 hl2 sm ⊢
      refine ⟨_, rfl, p5, D, _, _, rfl, rfl, e5, hl2, ?_, fun p6 hp6 => ?_⟩
      · rw [List.length_map, zl, sizeLine_eq, List.length_nil]; omega
      have f1 : (upd G5 p6 (.lst ([] ++ (List.zipWith partL ks ps).map (V.str ∘ SX.S)))) p6 = some (.lst (((rowParts (.tuple (.str w' :: ps))).map SX.S).map V.str)) := by
        rw [upd_same, rp, ← map_VS]; rfl
      refine ⟨_, p6, _, rfl, rfl, .inl (.of f1), ?_, ?_⟩
      · rw [blank_S]; exact join_ok (fun x hx => (rcod x hx).2) bd
      · rw [blank_S, join_txt]
        exact q _ (sm.trans (same_new hp6))
    · rw [if_neg c] at rp
      have dc : (!decide (V.str w' = V.str (Str.ofString "do"))) = true := by
        have ev : ¬ V.str w' = V.str (Str.ofString "do") := fun h => c (V.str.inj h)
        rw [decide_eq_false ev]; rfl
      rw [dc]
      refine .inr ⟨_, rfl, ?_⟩
      refine ⟨L, 1, _, rfl, rfl, eL, by decide, by decide, sz (by show 1 * 1 ≤ 1000; decide), fun p5 hp5 => ?_⟩
      have s5 := same_new (o := .lst (List.replicate (1 : Int).toNat [V.str w']).flatten) hp5
      have e5 : (upd G4 p5 (.lst (List.replicate (1 : Int).toNat [V.str w']).flatten)) p5 = some (.lst [V.str w']) := upd_same
      replace hl2 := s5 _ _ hl2
      replace sm := sm.trans s5
      generalize upd G4 p5 _ = G5 at e5 hl2 sm ⊢
      refine ⟨_, rfl, p5, D, _, _, rfl, rfl, e5, hl2, ?_, fun p6 hp6 => ?_⟩
      · rw [List.length_map, zl, sizeLine_eq, List.length_cons, List.length_nil]; omega
      have f1 : (upd G5 p6 (.lst ([V.str w'] ++ (List.zipWith partL ks ps).map (V.str ∘ SX.S)))) p6 = some (.lst (((rowParts (.tuple (.str w' :: ps))).map SX.S).map V.str)) := by
        rw [upd_same, rp, ← map_VS]
        show _ = some (HO.lst (V.str (SX.S w'.cps.toList) :: _))
        rw [S_back]
        rfl
      refine ⟨_, p6, _, rfl, rfl, .inl (.of f1), ?_, ?_⟩
      · rw [blank_S]; exact join_ok (fun x hx => (rcod x hx).2) bd
      · rw [blank_S, join_txt]
        exact q _ (sm.trans (same_new hp6))

def sp__law_text (K : PySem.W.Frag) : Sp := fun vs H Q _ => ∃ v ds, vs = [v] ∧ Dx H v (.list ds) ∧ (∀ d ∈ ds, rowD d = true) ∧ ds.length ≤ 1000 ∧ ∀ H', Same H H' → Q (.str (SX.S (textL ds))) H'
theorem ok__law_text {f : Addr} {fd : FuncData} (F : Fun K "_law_text" "_law_text" s__law_text f fd) (T : Txt K w mg) (C__law_line : Cal P w K mg base "_law_line" 2 ["_law_row_here"] (sp__law_line K)) : FnOk P w K mg base CX0 3 f fd ["_law_rows"] (sp__law_text K) := by
  refine F.ok sc__law_text (fun vs H Q E h => ?_) (fun cdv A outer s H vs Q E hr h => ?_)
  · obtain ⟨v, ds, rfl, hd, ok, hl, q⟩ := h; rfl
  · obtain ⟨v, ds, rfl, hd, ok, hl, q⟩ := h
    refine ⟨_, (pss_one (ps_ret (pe_join pe_str (pe_lc (own := [("_law_row_here", 1)]) rfl sc__law_text.nd (pi_list (pv 0)) (blkOk_by (own := [("_law_row_here", 1)]) (N := ["_law_rows", "_law_row_here"]) (sc := defScope s__law_text) (by decide +kernel)) (fun _ _ _ _ _ => (pg_name (i := 1) sc__law_text.nd rfl (.inl rfl))) (fun _ _ _ _ _ => pts_nil) (fun _ _ _ _ _ => (pe_cal C__law_line (hr.mono (by decide)) (pa_cons (pv 1) pa_nil))))))), ?_⟩
    obtain ⟨p, xs, rfl, hp, hx⟩ := hd.lst_of
    have el := hx.length
    refine ⟨⟨_, rfl⟩, _, rfl, p, rfl, ⟨_, .of hp⟩, fun D hD => ?_⟩
    refine lc_list (K := K) (a := p) (xs := xs) (fun i H' => Same H H' ∧ H' D = some (.lst (((ds.take i).map rowL).map (V.str ∘ SX.S)))) ⟨same_new hD, upd_same⟩ (fun i H' _ h => .of (h.1 _ _ hp)) ?_ ?_
    · rintro i x H3 hi ⟨sm, hl2⟩
      obtain ⟨di, hdi, hxi⟩ := hx.at hi
      refine ⟨rfl, ?_⟩
      refine ⟨_, rfl, x, di, rfl, hxi.same sm, ok di (List.mem_of_getElem? hdi), fun H4 s4 => ?_⟩
      refine ⟨_, s4 _ _ hl2, ?_, ?_, ?_⟩
      · rw [List.length_map, List.length_map, List.length_take, sizeLine_eq]; omega
      · exact fun b o e => by
          rw [upd_ne (ne_of_none e hD)]
          exact s4 _ _ (sm b o e)
      · rw [upd_same, List.take_add_one, hdi, List.map_append, List.map_append]; rfl
    rintro H3 ⟨sm, hl2⟩
    rw [el, List.take_length, map_VS] at hl2
    refine ⟨_, D, _, rfl, rfl, .inl (.of hl2), ?_, ?_⟩
    · rw [nl_S]
      refine join_ok (n := 55) (fun x hx => ?_) ?_
      · obtain ⟨d, hd', rfl⟩ := List.mem_map.mp hx
        exact (row_codes (ok d hd')).2
      · rw [List.length_map]
        show 55 * _ + _ * 1 ≤ _
        omega
    · rw [nl_S, join_txt]
      exact q _ sm

def sp__law_number_in (K : PySem.W.Frag) : Sp := fun vs H Q _ => ∃ z, vs = [.str (SX.S z)] ∧ TxtOk 500000 z ∧ ∀ v H', Same H H' → Dx H v (lawNum z) → Q v H'
theorem ok__law_number_in {f : Addr} {fd : FuncData} (F : Fun K "_law_number_in" "_law_number_in" s__law_number_in f fd) (T : Txt K w mg) : FnOk P w K mg base CX0 1 f fd ["_law_word"] (sp__law_number_in K) := by
  refine F.ok sc__law_number_in (fun vs H Q E h => ?_) (fun cdv A outer s H vs Q E hr h => ?_)
  · obtain ⟨z, rfl, hz, q⟩ := h; rfl
  · obtain ⟨z, rfl, hz, q⟩ := h
    refine ⟨_, (pss_cons (ps_set (i := 1) sc__law_number_in.nd rfl (.inl rfl) (pe_slice sl_str (pv 0) (po_some (pe_callTy call_int1 (by rfl) T.z_int (by decide +kernel) (pa_cons (pe_bm PySem.F.plainAttrs_str PySem.F.slot_str_startswith PySem.F.type_str_startswith mt_startswith (pv 0) (pa_cons pe_str pa_nil)) pa_nil))) po_none))
      (pss_cons (ps_if (PW.pt (pw_or (pt_cmpR op_eq (pv 1) pe_str (nomark _)) (pw_or (pt_cmpR op_gt (pe_callB call_len_str (by rfl) T.z_len (by decide +kernel) (pa_cons (pv 1) pa_nil)) pe_int (nomark _)) (pw_or1 (pt_cmpR (r := rNeD K) (op_neD hr.units) (pe_lc (own := [("_law_sign", 2)]) rfl sc__law_number_in.nd (pi_str (pv 1)) (blkOk_by (own := [("_law_sign", 2)]) (N := ["_law_word", "_law_digits", "_law_sign"]) (sc := defScope s__law_number_in) (by decide +kernel)) (fun _ _ _ _ _ => (pg_name (i := 2) sc__law_number_in.nd rfl (.inl rfl))) (fun _ _ _ _ _ => (pts_one (pt_cmpR op_notIn_sign (pv 2) pe_str (by rfl)))) (fun _ _ _ _ _ => (pv 2))) (pe_lst pa_nil) (nomark _)))))) (pss_one (ps_ret pe_non)) pss_nil)
      (pss_cons (ps_if (PW.pt (pw_or (PW.pt (pw_and (pt_val (pe_bm PySem.F.plainAttrs_str PySem.F.slot_str_startswith PySem.F.type_str_startswith mt_startswith (pv 1) (pa_cons pe_str pa_nil))) (pw_and1 (pt_cmpR op_ne (pv 1) pe_str (nomark _))))) (pw_or1 (pt_cmpR op_eq (pv 0) pe_str (nomark _))))) (pss_one (ps_ret pe_non)) pss_nil)
      (pss_one (ps_ret (pe_op op_mul (pe_callTy call_int_str (by rfl) T.z_int (by decide +kernel) (pa_cons (pv 1) pa_nil)) (pe_ix (r := rIxL K) ix_list (pe_lst (pa_cons pe_int (pa_cons (pe_un un_neg pe_int) pa_nil))) (pe_callTy call_int1 (by rfl) T.z_int (by decide +kernel) (pa_cons (pe_bm PySem.F.plainAttrs_str PySem.F.slot_str_startswith PySem.F.type_str_startswith mt_startswith (pv 0) (pa_cons pe_str pa_nil)) pa_nil)) (fun _ _ => rfl)))))))), ?_⟩
    have zl := hz.1
    have lz : (SX.S z).length ≤ sizeLine := by rw [SX.S_len, sizeLine_eq]; omega
    have fl := (figs_len z).1
    have fok : ∀ c ∈ figs z, c < 128 := fun c hc => by
      rw [figs_if] at hc
      split at hc
      · exact hz.2 c (List.mem_of_mem_tail hc)
      · exact hz.2 c hc
    have lf : (SX.S (figs z)).length ≤ sizeLine := by rw [SX.S_len, sizeLine_eq]; omega
    have sw : Txt.startswith (SX.S z) (Str.ofString "-") = negL z := by rw [minus_S]; exact starts_S z 45
    have no : ∀ H', Same H H' → ¬ (wholeOk z = true ∧ (figs z).length ≤ 9) → Q .non H' := fun H' s' h => q _ _ s' (by rw [show lawNum z = .none from if_neg h]; exact .non)
    refine ⟨_, rfl, _, rfl, rfl, _, _, rfl, rfl, ?_⟩
    rw [sw]
    refine .inr ⟨_, rfl, _, rfl, _, rfl, lz, ?_⟩
    rw [show cutS (SX.S z) (some (if negL z = true then 1 else 0)) none = SX.S (figs z) from by rw [figs_if]; exact cutneg z (negL z) 45 rfl]
    refine ⟨_, rfl, rfl, _, rfl, ifd (fun c => ?_) (fun c => ?_)⟩
    · refine no _ (Same.refl _) fun h => (whole_iff'.mp h.1).1 (SX.S_inj ((V.str.inj c).trans nil_S))
    have ne : figs z ≠ [] := fun e => c (by rw [e]; exact congrArg V.str nil_S.symm)
    refine ⟨_, rfl, _, rfl, lf, _, _, rfl, rfl, _, rfl, ifd (fun l => ?_) (fun l => ?_)⟩
    · refine no _ (Same.refl _) fun h => ?_
      rw [SX.S_len] at l
      omega
    have l9 : (figs z).length ≤ 9 := by rw [SX.S_len] at l; omega
    refine ⟨_, rfl, _, rfl, fun D hD => ?_⟩
    refine lc_it (walk_str (z := SX.S (figs z))) (fun i H' => Same H H' ∧ H' D = some (.lst (((((figs z).take i).filter fun c => !isF c).map one).map V.str))) ⟨same_new hD, upd_same⟩ (fun _ _ _ _ => trivial) ?_ ?_
    · rintro i x H2 H3 hi ⟨sm, hl⟩ ⟨rfl, c1, hc, rfl⟩
      have hc' : (figs z)[i]? = some c1 := by simpa using hc
      have ft := filter_take (figs z) (fun c => !isF c) hc'
      refine ⟨rfl, ?_⟩
      refine ⟨_, rfl, c1, _, rfl, rfl, ?_⟩
      rw [in_digits]
      refine ⟨_, rfl, ifnb (fun e => ?_) (fun e => ?_)⟩
      · refine ⟨_, rfl, _, hl, ?_, ?_, ?_⟩
        · rw [List.length_map, List.length_map]
          have := List.length_filter_le (fun c => !isF c) ((figs z).take i)
          rw [List.length_take] at this
          rw [sizeLine_eq]; omega
        · exact fun b o h => by rw [upd_ne (ne_of_none h hD)]; exact sm b o h
        · rw [upd_same, ft, e, if_pos (show (!false) = true from rfl), List.map_append, List.map_append]; rfl
      · refine ⟨sm, ?_⟩
        rw [ft, e, if_neg (show ¬ (!true) = true by decide), List.append_nil]
        exact hl
    rintro H2 ⟨sm, hl⟩
    have tk : (figs z).take (SX.S (figs z)).cps.size = figs z := List.take_of_length_le (by simp)
    rw [tk] at hl
    have okb : ∀ x ∈ ((figs z).filter fun c => !isF c).map one, PyData.strOk x = true := ok_ones fun c hc => fok c (List.mem_filter.mp hc).1
    refine ⟨sz (by simp), fun L hL => ?_⟩
    have sL := same_new (o := .lst []) hL
    have hl2 := sL _ _ hl
    have fL : (upd H2 L (.lst [])) L = some (.lst []) := upd_same
    replace sm := sm.trans sL
    generalize upd H2 L _ = H4 at hl2 fL sm ⊢
    refine ⟨_, .list [], dp_txts hl2, .lst (.of fL) .nil, shaped_strs okb, rfl, _, rfl, ?_⟩
    rw [eqv_none]
    refine ifnb (fun b => ?_) (fun b => ?_)
    · refine no _ sm fun h => ?_
      have := badl_nil.mpr (whole_iff'.mp h.1).2.1
      rw [this] at b; cases b
    have all : ∀ c ∈ figs z, isF c = true := badl_nil.mp (by
      cases e : (figs z).filter fun c => !isF c with
      | nil => rfl
      | cons x r => rw [e] at b; cases b)
    have wi : wholeOk z = true ↔ ¬ (((figs z).head? = some 48 ∧ figs z ≠ [48]) ∨ z = [45, 48]) := by
      rw [whole_iff', ← zero_iff]
      exact ⟨fun h => h.2.2.2, fun h => ⟨ne, all, by omega, h⟩⟩
    clear hl hl2 fL sL okb hL hD b
    have z0 : ∀ y, V.str (SX.S y) = V.str (Str.ofString "0") ↔ y = [48] := fun y => ⟨fun h => SX.S_inj ((V.str.inj h).trans zero_S), fun h => by rw [h]; exact congrArg V.str zero_S.symm⟩
    have z1 : V.str (SX.S z) = V.str (Str.ofString "-0") ↔ z = [45, 48] := ⟨fun h => SX.S_inj ((V.str.inj h).trans mzero_S), fun h => by rw [h]; exact congrArg V.str mzero_S.symm⟩
    have fin : wholeOk z = true → ∀ (P : Prop), ((∃ n, intText? (SX.S (figs z)) = some n ∧ (SX.S (figs z)).length ≤ 640 ∧ (n = wholeV z ∧ negL z = false ∨ n = - wholeV z ∧ negL z = true)) → P) → P := fun ok P h => h ⟨((NumText.digitsVal (figs z) : Nat) : Int), intText_digits (x := SX.S (figs z)) (allF (List.all_eq_true.mpr all)) ne (by rw [SX.S_len]; omega), by rw [SX.S_len]; omega, by
      unfold wholeV
      cases e : negL z with
      | true => exact .inr ⟨by rw [if_pos rfl]; omega, rfl⟩
      | false => exact .inl ⟨by rw [if_neg Bool.false_ne_true], rfl⟩⟩
    refine ⟨_, rfl, rfl, _, _, rfl, rfl, ?_⟩
    rw [show Txt.startswith (SX.S (figs z)) (Str.ofString "0") = decide ((figs z).head? = some 48) from by rw [zero_S]; exact starts_S _ 48]
    refine' with_fin (A := wholeOk z = true) ?h ?k
    case k =>
      intro fin
      refine ⟨_, rfl, ifd (fun a1 => ?_) (fun a1 => ?_)⟩
      · refine ⟨_, rfl, rfl, _, rfl, ifnd (fun a2 => ?_) (fun a2 => ?_)⟩
        · exact no _ sm fun h => wi.mp h.1 (.inl ⟨a1, fun e => a2 ((z0 _).mpr e)⟩)
        · have a3 := (z0 _).mp a2
          refine ⟨_, rfl, rfl, _, rfl, ifd (fun a4 => ?_) (fun a4 => ?_)⟩
          · exact no _ sm fun h => wi.mp h.1 (.inr (z1.mp a4))
          · exact fin (wi.mpr fun h => h.elim (fun h => h.2 a3) fun h => a4 (z1.mpr h))
      · refine ⟨_, rfl, rfl, _, rfl, ifd (fun a4 => ?_) (fun a4 => ?_)⟩
        · exact no _ sm fun h => wi.mp h.1 (.inr (z1.mp a4))
        · exact fin (wi.mpr fun h => h.elim (fun h => a1 h.1) fun h => a4 (z1.mpr h))
    case h =>
      intro ok
      obtain ⟨n, hn, ln, sg⟩ := fin ok _ id
      refine ⟨_, rfl, _, n, rfl, hn, ln, ?_⟩
      refine ⟨_, rfl, sz (by simp), fun L2 hL2 => ?_⟩
      refine ⟨_, rfl, rfl, _, _, rfl, rfl, ?_⟩
      rw [sw]
      have e2 : (upd H4 L2 (.lst [V.int 1, .int (-1)])) L2 = some (.lst [V.int 1, .int (-1)]) := upd_same
      have fq : Q (.int (wholeV z)) (upd H4 L2 (.lst [V.int 1, .int (-1)])) := q _ _ (sm.trans (same_new hL2)) (by rw [show lawNum z = .int (wholeV z) from if_pos ⟨ok, l9⟩]; exact .int _)
      rcases sg with ⟨rfl, sg⟩ | ⟨rfl, sg⟩
      · rw [sg]
        refine .inr ⟨_, rfl, L2, _, 0, _, rfl, rfl, .of e2, atI_nat (j := 0) rfl, _, _, rfl, rfl, .inr ⟨by decide, by decide⟩, ?_⟩
        show Q (.int (wholeV z * 1)) (upd H4 L2 (.lst [V.int 1, .int (-1)]))
        rw [Int.mul_one]
        exact fq
      · rw [sg]
        refine .inr ⟨_, rfl, L2, _, 1, _, rfl, rfl, .of e2, atI_nat (j := 1) rfl, _, _, rfl, rfl, .inr ⟨by decide, by decide⟩, ?_⟩
        show Q (.int (-wholeV z * -1)) (upd H4 L2 (.lst [V.int 1, .int (-1)]))
        rw [show -wholeV z * -1 = wholeV z by omega]
        exact fq

def sp__law_part_in (K : PySem.W.Frag) : Sp := fun vs H Q _ => ∃ z k, vs = [.str (one (Kind.sg k)), .str (SX.S z)] ∧ TxtOk 500000 z ∧ ∀ v H', Same H H' → Dx (news H H') v (lawPartIn k z) → Q v H'
theorem ok__law_part_in {f : Addr} {fd : FuncData} (F : Fun K "_law_part_in" "_law_part_in" s__law_part_in f fd) (T : Txt K w mg) (C__law_number_in : Cal P w K mg base "_law_number_in" 1 ["_law_word"] (sp__law_number_in K)) : FnOk P w K mg base CX0 2 f fd ["_law_sort", "_law_word"] (sp__law_part_in K) := by
  refine F.ok sc__law_part_in (fun vs H Q E h => ?_) (fun cdv A outer s H vs Q E hr h => ?_)
  · obtain ⟨z, k, rfl, hz, q⟩ := h; rfl
  · obtain ⟨z, k, rfl, hz, q⟩ := h
    refine ⟨_, (pss_cons (ps_if (pt_cmpR op_in_sign (pv 0) pe_str (by rfl)) (pss_one (ps_ret (pe_cal C__law_number_in (hr.mono (by decide)) (pa_cons (pv 1) pa_nil)))) pss_nil)
      (pss_cons (ps_if (pt_cmpR op_eq (pv 0) pe_str (nomark _)) (pss_one (ps_ret (pe_tup (pa_cons (pe_ix (r := rIxL K) ix_list (pe_lst (pa_cons pe_str (pa_cons pe_str pa_nil))) (pe_callTy call_int1 (by rfl) T.z_int (by decide +kernel) (pa_cons (pe_bm PySem.F.plainAttrs_str PySem.F.slot_str_startswith PySem.F.type_str_startswith mt_startswith (pv 1) (pa_cons pe_str pa_nil)) pa_nil)) (fun _ _ => rfl)) (pa_cons (pe_cal C__law_number_in (hr.mono (by decide)) (pa_cons (pe_slice sl_str (pv 1) (po_some (pe_callTy call_int1 (by rfl) T.z_int (by decide +kernel) (pa_cons (pe_bm PySem.F.plainAttrs_str PySem.F.slot_str_startswith PySem.F.type_str_startswith mt_startswith (pv 1) (pa_cons pe_str pa_nil)) pa_nil))) po_none) pa_nil)) pa_nil))))) pss_nil)
      (pss_cons (ps_if (PW.pt (pw_and (pt_cmpR op_eq (pv 0) pe_str (nomark _)) (pw_and1 (pt_cmpR (r := rIn K false) op_in_seq (pv 1) (pe_tup (pa_cons pe_str (pa_cons pe_str pa_nil))) (by rfl))))) (pss_one (ps_ret (pe_dget (hu_of hr) (pe_disp (pps_cons pe_str pe_non (pps_cons pe_str pe_str pps_nil)) (by rfl) (by rfl) (fun z => by cases z) (by decide)) (pv 1) (fun _ _ => rfl)))) pss_nil)
      (pss_one (ps_ret (pv 1)))))), ?_⟩
    obtain ⟨e1, e2, e3, e4, e5, e6, e7, e8, e9⟩ := sg_one
    have zl := hz.1
    have lz : (SX.S z).length ≤ sizeLine := by rw [SX.S_len, sizeLine_eq]; omega
    have sw : Txt.startswith (SX.S z) (Str.ofString "#") = decide (z.head? = some 35) := by rw [hash_S]; exact starts_S z 35
    refine ⟨_, rfl, k.sg, _, rfl, rfl, _, rfl, ?_⟩
    rw [in_bnot]
    cases hn : numOfK k with
    | some lm =>
      refine ifbT rfl ?_
      refine ⟨_, rfl, z, rfl, hz, fun v H' s' hv => ?_⟩
      have e : lawPartIn k z = lawNum z := by cases k <;> first | rfl | cases hn
      exact q v H' s' (by rw [e]; exact lawNum_any hv)
    | none =>
      refine ifbF rfl ?_
      by_cases ky : k = .by_
      · subst ky
        refine ⟨_, rfl, rfl, _, rfl, ifd (fun _ => ?_) (fun c => absurd (congrArg V.str e5) c)⟩
        refine ⟨sz (by simp), fun L hL => ?_⟩
        refine ⟨_, rfl, rfl, _, _, rfl, rfl, ?_⟩
        rw [sw]
        refine .inr ⟨_, rfl, ?_⟩
        have sL := same_new (o := .lst [V.str (Str.ofString "box"), .str (Str.ofString "worth")]) hL
        have eL : (upd H L (.lst [V.str (Str.ofString "box"), .str (Str.ofString "worth")])) L = some (.lst [V.str (Str.ofString "box"), .str (Str.ofString "worth")]) := upd_same
        generalize upd H L _ = G at sL eL ⊢
        by_cases c : z.head? = some 35
        · rw [decide_eq_true c]
          refine ⟨L, _, 1, _, rfl, rfl, .of eL, atI_nat (j := 1) rfl, ?_⟩
          refine ⟨_, rfl, _, rfl, rfl, _, _, rfl, rfl, ?_⟩
          rw [sw]
          refine .inr ⟨_, rfl, _, rfl, _, rfl, lz, ?_⟩
          rw [cutneg z (decide (z.head? = some 35)) 35 rfl, if_pos c]
          refine ⟨_, rfl, ⟨by rw [List.length_tail]; have := hz.1; omega, fun x hx => hz.2 x (List.mem_of_mem_tail hx)⟩, fun v H' s' hv => ⟨sz (by simp), fun t1 ht1 => ?_⟩⟩
          refine q _ _ ((sL.trans s').trans (same_new ht1)) ?_
          show Dx _ _ (lawBy z)
          unfold lawBy
          rw [if_pos c]
          exact Dx.two (news_at (free_back (sL.trans s') ht1) upd_same) (.str _) (lawNum_any hv)
        · rw [decide_eq_false c]
          refine ⟨L, _, 0, _, rfl, rfl, .of eL, atI_nat (j := 0) rfl, ?_⟩
          refine ⟨_, rfl, _, rfl, rfl, _, _, rfl, rfl, ?_⟩
          rw [sw]
          refine .inr ⟨_, rfl, _, rfl, _, rfl, lz, ?_⟩
          rw [cutneg z (decide (z.head? = some 35)) 35 rfl, if_neg c]
          refine ⟨_, rfl, hz, fun v H' s' hv => ⟨sz (by simp), fun t1 ht1 => ?_⟩⟩
          refine q _ _ ((sL.trans s').trans (same_new ht1)) ?_
          show Dx _ _ (lawBy z)
          unfold lawBy
          rw [if_neg c]
          exact Dx.two (news_at (free_back (sL.trans s') ht1) upd_same) (.str _) (lawNum_any hv)
      refine ⟨_, rfl, rfl, _, rfl, ifd (fun c => absurd (Eq.trans c (congrArg V.str e5.symm)) (sgS_ne (sg_by ky))) (fun _ => ?_)⟩
      by_cases kr : k = .rights
      · subst kr
        refine ⟨_, rfl, rfl, _, rfl, ifd (fun _ => ?_) (fun c => absurd (congrArg V.str e6) c)⟩
        refine ⟨_, rfl, sz (by simp), fun tp htp => ⟨tp, _, rfl, .inr (.of upd_same), rfl, rfl, ?_⟩⟩
        have iv : inV (.str (SX.S z)) [V.str (Str.ofString ""), .str (Str.ofString "-")] = decide (SX.S z ∈ [Str.ofString "", Str.ofString "-"]) := inV_strs (SX.S z) [Str.ofString "", Str.ofString "-"]
        have st := same_new (o := .tup [V.str (Str.ofString ""), .str (Str.ofString "-")]) htp
        generalize upd H tp _ = G at st ⊢
        refine ⟨_, rfl, ?_⟩
        rw [if_neg Bool.false_ne_true, iv]
        refine ifd (fun c => ?_) (fun c => ?_)
        · refine fun pd hpd => ⟨upd_same, twoR, rfl, by decide, ?_⟩
          rw [twoR_merge, upd_upd]
          have sd := st.trans (same_new (o := .dK twoR) hpd)
          have ed : (upd G pd (.dK twoR)) pd = some (.dK twoR) := upd_same
          generalize upd G pd _ = G2 at sd ed ⊢
          have c' : z = [] ∨ z = [45] := by
            rcases List.mem_cons.mp c with h | h
            · exact .inl (SX.S_inj (h.trans nil_S))
            · exact .inr (SX.S_inj ((List.mem_singleton.mp h).trans minus_S))
          rcases c' with rfl | rfl
          · have dg : DGet G2 pd (.str (SX.S [])) (some .non) := by
              have := DGet.k (k := Sum.inr (Str.ofString "")) ed
              rw [twoR_a] at this
              rw [← nil_S]
              exact this
            refine ⟨_, rfl, pd, _, rfl, dg, q _ _ sd ?_⟩
            exact .non
          · have dg : DGet G2 pd (.str (SX.S [45])) (some (.str (Str.ofString ""))) := by
              have := DGet.k (k := Sum.inr (Str.ofString "-")) ed
              rw [twoR_b] at this
              rw [← minus_S]
              exact this
            refine ⟨_, rfl, pd, _, rfl, dg, q _ _ sd ?_⟩
            show Dx _ _ (.str (SX.S []))
            rw [← nil_S]
            exact .str _
        · refine ⟨_, rfl, q _ _ st ?_⟩
          have n1 : ¬ z = [] := fun e => c (by rw [e, ← nil_S]; exact List.mem_cons_self ..)
          have n2 : ¬ z = [45] := fun e => c (by rw [e, ← minus_S]; exact List.mem_cons_of_mem _ (List.mem_cons_self ..))
          show Dx _ _ (rightsIn z)
          unfold rightsIn
          rw [if_neg n1, if_neg n2]
          exact .str _
      · refine ⟨_, rfl, rfl, _, rfl, ifd (fun c => absurd (Eq.trans c (congrArg V.str e6.symm)) (sgS_ne (sg_ri kr))) (fun _ => ?_)⟩
        refine ⟨_, rfl, q _ _ (Same.refl _) ?_⟩
        have e : lawPartIn k z = .str (SX.S z) := by cases k <;> first | rfl | (cases hn; done) | exact absurd rfl ky | exact absurd rfl kr
        rw [e]
        exact .str _

def sp__law_row_in (K : PySem.W.Frag) : Sp := fun vs H Q _ => ∃ z, vs = [.str (SX.S z)] ∧ TxtOk 500000 z ∧ ∀ v H', Same H H' → Dx (news H H') v (rowIn z) → Q v H'
theorem ok__law_row_in {f : Addr} {fd : FuncData} (F : Fun K "_law_row_in" "_law_row_in" s__law_row_in f fd) (T : Txt K w mg) (C__law_forms : Cal P w K mg base "_law_forms" 1 [] (sp__law_forms K)) (C__law_lists : Cal P w K mg base "_law_lists" 1 ["_law_sort"] (sp__law_lists K)) (C__law_is_row : Cal P w K mg base "_law_is_row" 4 ["_law_thing"] (sp__law_is_row K)) (C__law_part_in : Cal P w K mg base "_law_part_in" 2 ["_law_sort", "_law_word"] (sp__law_part_in K)) : FnOk P w K mg base CX0 5 f fd ["_law_line_here"] (sp__law_row_in K) := by
  refine F.ok sc__law_row_in (fun vs H Q E h => ?_) (fun cdv A outer s H vs Q E hr h => ?_)
  · obtain ⟨z, rfl, hz, q⟩ := h; rfl
  · obtain ⟨z, rfl, hz, q⟩ := h
    refine ⟨_, (pss_cons (ps_set (i := 1) sc__law_row_in.nd rfl (.inl rfl) (pe_bm PySem.F.plainAttrs_str PySem.F.slot_str_split PySem.F.type_str_split mt_split (pv 0) (pa_cons pe_str pa_nil)))
      (C8.pss_cut (ps_if (pt_cmpR (r := rInD K) (op_inD (hu65 hr)) (pe_ix (r := rIxL K) ix_list (pv 1) pe_int (fun _ _ => rfl)) (pe_cal C__law_lists (hr.mono (by decide)) (pa_cons pe_str pa_nil)) (by rfl)) (pss_one (ps_set (i := 1) sc__law_row_in.nd rfl (.inl rfl) (pe_op op_cat (pe_lst (pa_cons pe_str pa_nil)) (pv 1)))) (pss_one (ps_if (pt_cmpR op_eq (pe_ix (r := rIxL K) ix_list (pv 1) pe_int (fun _ _ => rfl)) pe_str (nomark _)) (pss_one (ps_ret pe_non)) pss_nil)))
      (pss_cons (ps_set (i := 2) sc__law_row_in.nd rfl (.inl rfl) (pe_dget2 (hu_of hr) (pe_cal0 C__law_forms (hr.mono (by decide))) (pe_ix (r := rIxL K) ix_list (pv 1) pe_int (fun _ _ => rfl)) pe_non ⟨by rfl, by rfl, by rfl, by rfl⟩))
      (pss_cons (ps_if (PW.pt (pw_or (pt_cmpR op_isN (pv 2) pe_non (nomark _)) (pw_or1 (pt_cmpR op_ne (pe_callB call_len_seq (by rfl) T.z_len (by decide +kernel) (pa_cons (pv 1) pa_nil)) (pe_op op_add (pe_callB call_len_str (by rfl) T.z_len (by decide +kernel) (pa_cons (pv 2) pa_nil)) pe_int) (nomark _))))) (pss_one (ps_ret pe_non)) pss_nil)
      (pss_cons (ps_set (i := 5) sc__law_row_in.nd rfl (.inl rfl) (pe_op op_catT (pe_tup (pa_cons (pe_ix (r := rIxL K) ix_list (pv 1) pe_int (fun _ _ => rfl)) pa_nil)) (pe_callTy call_tuple_of (by rfl) T.z_tuple (by decide +kernel) (pa_cons (pe_lc (own := [("_law_sort", 3), ("_law_word", 4)]) (g := gTup K 2 (gCons (gName 3) (gCons (gName 4) gNil))) rfl sc__law_row_in.nd (pi_zipG (k1 := .s) (k2 := .l) (by rfl) T.z_zip (pa_cons (pv 2) (pa_cons (pe_slice sl_list (pv 1) (po_some pe_int) po_none) pa_nil))) (blkOk_by (own := [("_law_sort", 3), ("_law_word", 4)]) (N := ["_law_line_here", "_law_words", "_law_sorts", "_law_sort", "_law_word", "_law_row_here"]) (sc := defScope s__law_row_in) (by decide +kernel)) (fun _ _ _ _ _ => by exact (pg_tup rfl (pgs_cons (pg_name (i := 3) sc__law_row_in.nd rfl (.inl rfl)) (pgs_cons (pg_name (i := 4) sc__law_row_in.nd rfl (.inl rfl)) pgs_nil)))) (fun _ _ _ _ _ => pts_nil) (fun _ _ _ _ _ => (pe_cal C__law_part_in (hr.mono (by decide)) (pa_cons (pv 3) (pa_cons (pv 4) pa_nil))))) pa_nil))))
      (pss_one (ps_ret (pe_ifExp (pt_val (pe_cal C__law_is_row (hr.mono (by decide)) (pa_cons (pv 5) pa_nil))) (pv 5) pe_non)))))))), ?_⟩
    obtain ⟨g1, g2, g3, g4, g5, g6, g7, g8, g9⟩ := sg_one
    have zl := hz.1
    have lz : (SX.S z).length + 2 ≤ sizeLine := by rw [SX.S_len, sizeLine_eq]; omega
    refine ⟨_, rfl, rfl, _, _, rfl, rfl, by decide +kernel, lz, fun p0 hp0 => ?_⟩
    rw [show Txt.split (SX.S z) (Str.ofString " ") = (TL.spl [32] 0 [] z).map SX.S from by rw [blank_S]; exact split_one 32 (by decide) z, List.map_map]
    have lw := spl_len 32 z []
    have lm := hz.spl 32
    have ne := spl_ne 32 z []
    have ri : rowIn z = if (TL.spl [32] 0 [] z).head? = some doS.cps.toList then .none else rowOf (wordsIn (TL.spl [32] 0 [] z)) := rfl
    generalize TL.spl [32] 0 [] z = ws at lw lm ne ri ⊢
    obtain ⟨w0, r0, rfl⟩ : ∃ w0 r0, ws = w0 :: r0 := by
      cases ws with
      | nil => exact absurd rfl ne
      | cons a r => exact ⟨a, r, rfl⟩
    have S1 := same_new (o := .lst ((w0 :: r0).map (V.str ∘ SX.S))) hp0
    have e1 : (upd H p0 (.lst ((w0 :: r0).map (V.str ∘ SX.S)))) p0 = some (.lst ((w0 :: r0).map (V.str ∘ SX.S))) := upd_same
    generalize upd H p0 _ = H1 at S1 e1 ⊢
    have iw : SX.S w0 ∈ wordsOf .doing ↔ (w0 :: r0).head?.getD [] ∈ (wordsOf .doing).map (fun s => s.cps.toList) := by
      show _ ↔ w0 ∈ _
      rw [List.mem_map]
      exact ⟨fun h => ⟨_, h, rfl⟩, fun ⟨s, hs, e⟩ => by rw [← e, S_back]; exact hs⟩
    refine ⟨fun σ G => ∃ p1 w1 r1, σ = [some (.str (SX.S z)), some (.ref p1), none, none, none, none] ∧ Same H G ∧ G p1 = some (.lst ((w1 :: r1).map (V.str ∘ SX.S))) ∧ rowIn z = rowOf (w1 :: r1) ∧ (∀ x ∈ r1, TxtOk 500000 x) ∧ r1.length ≤ z.length + 1, ?_, ?_⟩
    · refine ⟨_, rfl, p0, _, 0, _, rfl, rfl, .of e1, atI_nat (j := 0) rfl, .doing, by rw [← g7]; rfl, rfl, fun pl hpl => ?_⟩
      have S2 := same_new (o := .lst ((wordsOf .doing).map V.str)) hpl
      have e2 : (upd H1 pl (.lst ((wordsOf .doing).map V.str))) pl = some (.lst ((wordsOf .doing).map V.str)) := upd_same
      replace e1 := S2 _ _ e1
      replace S1 := S1.trans S2
      generalize upd H1 pl _ = H2 at S1 e1 e2 ⊢
      have w0ok : TxtOk 500000 w0 := lm w0 (List.mem_cons_self ..)
      refine ⟨.str (SX.S w0), (wordsOf .doing).map .str, .str _, dp_txts e2, (txt_str w0ok).shaped (by decide), shaped_strs (words_okX .doing), ?_⟩
      rw [any_strsX]
      refine ⟨_, rfl, ifd (fun d2 => ?_) (fun d2 => ?_)⟩
      · refine ⟨sz (by simp), fun L hL => ⟨_, rfl, L, p0, _, _, rfl, rfl, upd_same, same_new hL _ _ e1, ?_, fun p1 hp1 => ?_⟩⟩
        · rw [sizeLine_eq]
          simp only [List.length_cons, List.length_map, List.length_nil] at lw ⊢
          omega
        refine ⟨p1, doS.cps.toList, w0 :: r0, rfl, (S1.trans (same_new hL)).trans (same_new hp1), upd_same, ?_, lm, lw⟩
        rw [ri, if_neg]
        · unfold wordsIn
          rw [if_pos (iw.mp d2)]
        · intro h
          have h' : w0 = doS.cps.toList := Option.some.inj h
          rw [h', S_back] at d2
          exact doing_not d2
      · refine ⟨_, rfl, p0, _, 0, _, rfl, rfl, .of e1, atI_nat (j := 0) rfl, rfl, _, rfl, ifd (fun c => ?_) (fun c => ?_)⟩
        · refine q .non _ S1 ?_
          have hd : w0 = doS.cps.toList := congrArg (fun x : Str => x.cps.toList) (V.str.inj c)
          rw [ri, if_pos (by rw [hd]; rfl)]
          exact .non
        · refine ⟨p0, w0, r0, rfl, S1, e1, ?_, fun x hx => lm x (List.mem_cons_of_mem _ hx), by rw [List.length_cons] at lw; omega⟩
          rw [ri, if_neg]
          · unfold wordsIn
            rw [if_neg fun h => d2 (iw.mpr h)]
          · intro h
            have h' : w0 = doS.cps.toList := Option.some.inj h
            refine c ?_
            show V.str (SX.S w0) = V.str doS
            rw [h', S_back]
    clear ri lw lm ne e1 S1 hp0 iw
    clear H1
    rintro σ G ⟨p1, w1, r1, rfl, S1, e1, ri, lm, lw⟩
    refine ⟨rfl, fun p2 H2 S2 hp2 e2 => ?_⟩
    replace e1 := S2 _ _ e1
    replace S1 := S1.trans S2
    have dg := DGet.k (k := Sum.inr (SX.S w1)) e2
    rw [formsV_val] at dg
    refine ⟨p2, rfl, .inl ⟨_, .inl e2⟩, _, rfl, p1, _, 0, _, rfl, rfl, .of e1, atI_nat (j := 0) rfl, _, dg, ?_⟩
    cases hl : look formsK (SX.S w1) with
    | none =>
      refine ⟨_, rfl, rfl, _, rfl, ifd (fun _ => ?_) (fun c => absurd rfl c)⟩
      refine q .non _ S1 ?_
      rw [ri]
      unfold rowOf
      dsimp only
      rw [hl]
      exact .non
    | some ks =>
      have k4 := forms_len hl
      have lk : (sgs ks).length = ks.length := sgs_size ks
      refine ⟨_, rfl, rfl, _, rfl, ifd (fun c => nomatch c) (fun _ => ?_)⟩
      refine ⟨_, rfl, p1, _, rfl, .inl (.of e1), _, rfl, _, rfl, by rw [lk, sizeLine_eq]; omega, _, _, rfl, rfl, rfl, _, rfl, ifnd (fun c => ?_) (fun c => ?_)⟩
      · refine q .non _ S1 ?_
        rw [ri]
        unfold rowOf
        dsimp only
        rw [hl]
        dsimp only
        rw [if_neg fun h => c (by rw [List.length_map, List.length_cons, lk, h]; rfl)]
        exact .non
      have el : r1.length = ks.length := by
        have := V.int.inj c
        rw [List.length_map, List.length_cons, lk] at this
        omega
      have ro := rowOf_law hl el
      refine ⟨_, rfl, p1, _, 0, V.str (SX.S w1), rfl, rfl, .of e1, atI_nat (j := 0) rfl, sz (by simp), fun t1 ht1 => ?_⟩
      have st1 := same_new (o := .tup [V.str (SX.S w1)]) ht1
      have f1 : (upd H2 t1 (.tup [V.str (SX.S w1)])) t1 = some (.tup [V.str (SX.S w1)]) := upd_same
      have h1 : H t1 = none := free_back S1 ht1
      replace e1 := st1 _ _ e1
      replace S1 := S1.trans st1
      generalize upd H2 t1 _ = G1 at S1 e1 f1 ⊢
      refine ⟨_, rfl, _, rfl, _, rfl, p1, _, rfl, .of e1, fun p5 hp5 => ?_⟩
      rw [show cutV ((w1 :: r1).map (V.str ∘ SX.S)) (some 1) none = r1.map (V.str ∘ SX.S) from cut_tail' (i := 1) (by rw [List.length_map, List.length_cons]; omega)]
      have s5 := same_new (o := .lst (r1.map (V.str ∘ SX.S))) hp5
      have e5 : (upd G1 p5 (.lst (r1.map (V.str ∘ SX.S)))) p5 = some (.lst (r1.map (V.str ∘ SX.S))) := upd_same
      replace f1 := s5 _ _ f1
      replace S1 := S1.trans s5
      generalize upd G1 p5 _ = G2 at S1 e5 f1 ⊢
      refine ⟨.str (sgs ks), .ref p5, signs (sgs ks), _, rfl, rfl, .of e5, fun D hD => ?_⟩
      have gD : (upd G2 D (.lst [])) D = some (.lst []) := upd_same
      refine lc_it (walk_zipG (K := K) (k1 := .s) (k2 := .l) (v1 := .str (sgs ks)) (v2 := .ref p5) (n := ks.length) (xs := signs (sgs ks)) (ys := r1.map (V.str ∘ SX.S)) (by rw [signs_sgsX, List.length_map, List.length_map, el, Nat.min_self])) (fun i H' => ∃ vs, Same G2 H' ∧ H' D = some (.lst vs) ∧ vs.length = i ∧ DxAll (news (upd G2 D (.lst [])) H') vs (List.zipWith lawPartIn (ks.take i) (r1.take i))) ⟨[], same_new hD, upd_same, rfl, .nil⟩ (fun i H' _ h => ?_) ?_ ?_
      · obtain ⟨_, h1, _⟩ := h
        exact ⟨rfl, SqL.of (h1 _ _ e5)⟩
      · rintro i x H3 H4 hi ⟨vs, sm2, hl2, len2, dx2⟩ ⟨Tp, y1, y2, rfl, hn, rfl, hy1, hy2⟩
        obtain ⟨zi, hzi, rfl⟩ : ∃ zi, r1[i]? = some zi ∧ y2 = V.str (SX.S zi) := by
          replace hy2 : (r1.map (V.str ∘ SX.S))[i]? = some y2 := hy2
          rw [List.getElem?_map] at hy2
          cases e : r1[i]? with
          | none => rw [e] at hy2; cases hy2
          | some k => rw [e] at hy2; exact ⟨k, rfl, (Option.some.inj hy2).symm⟩
        obtain ⟨k, hk, rfl⟩ : ∃ k, ks[i]? = some k ∧ y1 = V.str (one k.sg) := by
          replace hy1 : (signs (sgs ks))[i]? = some y1 := hy1
          rw [signs_sgsX, List.getElem?_map] at hy1
          cases e : ks[i]? with
          | none => rw [e] at hy1; cases hy1
          | some k => rw [e] at hy1; exact ⟨k, rfl, (Option.some.inj hy1).symm⟩
        have smT := same_new (o := .tup [V.str (one k.sg), V.str (SX.S zi)]) hn
        refine ⟨Tp, _, rfl, .of upd_same, rfl, _, _, rfl, _, _, rfl, rfl, rfl, ?_⟩
        refine ⟨_, rfl, _, rfl, zi, k, rfl, lm zi (List.mem_of_getElem? hzi), fun v H5 s5 hv => ?_⟩
        have h5 : H5 D = some (.lst vs) := s5 _ _ (smT _ _ hl2)
        have s35 : Same H3 H5 := smT.trans s5
        have dom : ∀ b, (upd H3 Tp (.tup [V.str (one k.sg), V.str (SX.S zi)])) b = none → (upd G2 D (.lst [])) b = none := fun b n => by
          have nT : b ≠ Tp := fun z => by rw [z, upd_same] at n; cases n
          rw [upd_ne nT] at n
          have nb : b ≠ D := fun z => by rw [z, hl2] at n; cases n
          rw [upd_ne nb]
          exact free_back sm2 n
        refine ⟨_, h5, by rw [len2, sizeLine_eq]; omega, vs ++ [v], ?_, upd_same, by rw [List.length_append, len2]; rfl, ?_⟩
        · exact fun b o e => by
            rw [upd_ne (ne_of_none e hD)]
            exact s35 _ _ (sm2 b o e)
        · rw [zip_take lawPartIn hk hzi]
          refine (DxAll.snoc (dx2.same fun b o e => ?_) (hv.same (news_mono dom))).same (news_upd gD)
          obtain ⟨n, e⟩ := news_of e
          exact news_at n (s35 _ _ e)
      rintro H3 ⟨vs, sm2, hl2, len2, dx2⟩
      rw [List.take_length, ← el, List.take_length] at dx2
      have domH : ∀ b, (upd G2 D (.lst [])) b = none → H b = none := fun b n => by
        have nb : b ≠ D := fun z => by rw [z, upd_same] at n; cases n
        rw [upd_ne nb] at n
        exact free_back S1 n
      have dxH := dx2.same (news_mono domH)
      have smH := S1.trans sm2
      replace f1 := sm2 _ _ f1
      refine ⟨D, vs, rfl, .inl ⟨.of hl2, fun t2 ht2 => ?_⟩⟩
      have st2 := same_new (o := .tup vs) ht2
      have f2 : (upd H3 t2 (.tup vs)) t2 = some (.tup vs) := upd_same
      replace f1 := st2 _ _ f1
      replace smH := smH.trans st2
      have dx3 : DxAll (news H (upd H3 t2 (.tup vs))) vs (List.zipWith lawPartIn ks r1) := dxH.same fun b o e => by
        obtain ⟨n, e⟩ := news_of e
        exact news_at n (st2 _ _ e)
      generalize upd H3 t2 _ = G3 at f1 f2 smH dx3 ⊢
      have lks : vs.length ≤ 4 := by omega
      refine ⟨t1, t2, [V.str (SX.S w1)], vs, rfl, rfl, .of f1, .of f2, (fun z => nomatch z), ?_, fun z => ?_, fun _ p3 hp3 => ?_⟩
      · show 1 + vs.length ≤ sizeLine
        exact sz (by omega)
      · subst z
        have ST := smH
        have DT : Dx (news H G3) (.ref t1) (.tuple (.str (SX.S w1) :: List.zipWith lawPartIn ks r1)) := .tup (news_at h1 f1) (.cons (.str _) dx3)
        refine ⟨_, rfl, _, _, rfl, DT.same (news_same _ _), fun ds e => ?_, fun H6 s6 => ⟨_, rfl, ifb (fun c => ?_) (fun c => ?_)⟩⟩
        · cases e
          obtain ⟨⟨m, n1⟩, n2⟩ := lawRow_nice (ks := ks) (n := 1000000) (List.mem_map.mpr ⟨_, look_mem hl, rfl⟩) (fun x hx => (lm x hx).mono (by decide)) (by decide)
          exact ⟨m, n1, n2⟩
        · refine ⟨_, rfl, q _ _ (ST.trans s6) ?_⟩
          rw [ri, ro, if_pos c]
          refine DT.same fun b o e => ?_
          obtain ⟨n, e⟩ := news_of e
          exact news_at n (s6 _ _ e)
        · refine q .non _ (ST.trans s6) ?_
          rw [ri, ro, if_neg (by rw [c]; exact Bool.false_ne_true)]
          exact .non
      · have sp3 := same_new (o := .tup ([V.str (SX.S w1)] ++ vs)) hp3
        have ST := smH.trans sp3
        have DT : Dx (news H (upd G3 p3 (.tup ([V.str (SX.S w1)] ++ vs)))) (.ref p3) (.tuple (.str (SX.S w1) :: List.zipWith lawPartIn ks r1)) := .tup (news_at (free_back smH hp3) upd_same) (.cons (.str _) (dx3.same fun b o e => by
          obtain ⟨n, e⟩ := news_of e
          exact news_at n (sp3 _ _ e)))
        refine ⟨_, rfl, _, _, rfl, DT.same (news_same _ _), fun ds e => ?_, fun H6 s6 => ⟨_, rfl, ifb (fun c => ?_) (fun c => ?_)⟩⟩
        · cases e
          obtain ⟨⟨m, n1⟩, n2⟩ := lawRow_nice (ks := ks) (n := 1000000) (List.mem_map.mpr ⟨_, look_mem hl, rfl⟩) (fun x hx => (lm x hx).mono (by decide)) (by decide)
          exact ⟨m, n1, n2⟩
        · refine ⟨_, rfl, q _ _ (ST.trans s6) ?_⟩
          rw [ri, ro, if_pos c]
          refine DT.same fun b o e => ?_
          obtain ⟨n, e⟩ := news_of e
          exact news_at n (s6 _ _ e)
        · refine q .non _ (ST.trans s6) ?_
          rw [ri, ro, if_neg (by rw [c]; exact Bool.false_ne_true)]
          exact .non

def sp__law_due (K : PySem.W.Frag) : Sp := fun vs H Q _ => ∃ v d, vs = [v] ∧ Dx H v d ∧ (∀ s, d = .str s → TxtOk 500000 s.cps.toList) ∧ ∀ v' H', Same H H' → Dx H' v' (ansD d) → Q v' H'
theorem ok__law_due {f : Addr} {fd : FuncData} (F : Fun K "_law_due" "_law_due" s__law_due f fd) (T : Txt K w mg) (C__law_row_in : Cal P w K mg base "_law_row_in" 5 ["_law_line_here"] (sp__law_row_in K)) : FnOk P w K mg base CX0 6 f fd ["_law_lines"] (sp__law_due K) := by
  refine F.ok sc__law_due (fun vs H Q E h => ?_) (fun cdv A outer s H vs Q E hr h => ?_)
  · obtain ⟨v, d, rfl, hd, ht, q⟩ := h; rfl
  · obtain ⟨v, d, rfl, hd, ht, q⟩ := h
    refine ⟨_, (pss_cons (ps_if (pt_not (pt_val (pe_callB call_isi (by rfl) T.z_isinstance (by decide +kernel) (pa_cons (pv 0) (pa_cons (pe_bltn (v := .ty "str") (by rfl) T.z_str (by decide +kernel) rfl) pa_nil))))) (pss_one (ps_ret (pe_lst (pa_cons pe_str (pa_cons pe_non pa_nil))))) pss_nil)
      (pss_cons (ps_set (i := 1) sc__law_due.nd rfl (.inl rfl) (pe_lst pa_nil))
      (pss_cons (ps_for PassesOwn.never rfl (pi_enum (by rfl) T.z_enumerate (pa_cons (pe_bm PySem.F.plainAttrs_str PySem.F.slot_str_split PySem.F.type_str_split mt_split (pv 0) (pa_cons pe_str pa_nil)) pa_nil)) (pg_tup rfl (pgs_cons (pg_name (i := 2) sc__law_due.nd rfl (.inl rfl)) (pgs_cons (pg_name (i := 3) sc__law_due.nd rfl (.inl rfl)) pgs_nil))) (pss_cons (ps_set (i := 4) sc__law_due.nd rfl (.inl rfl) (pe_cal C__law_row_in (hr.mono (by decide)) (pa_cons (pv 3) pa_nil)))
      (pss_cons (ps_if (pt_cmpR op_isN (pv 4) pe_non (nomark _)) (pss_one (ps_ret (pe_lst (pa_cons pe_str (pa_cons (pv 2) pa_nil))))) pss_nil)
      (pss_one (ps_expr (pe_bm PySem.F.plainAttrs_list PySem.F.slot_list_append PySem.F.type_list_append mt_append (pv 1) (pa_cons (pv 4) pa_nil)))))))
      (pss_one (ps_ret (pe_ifExp (pt_cmpR op_gt (pe_callB call_len_seq (by rfl) T.z_len (by decide +kernel) (pa_cons (pv 1) pa_nil)) pe_int (nomark _)) (pe_lst (pa_cons pe_str (pa_cons pe_non pa_nil))) (pv 1))))))), ?_⟩
    obtain ⟨t, ty, kt⟩ := hd.str? (K := K)
    refine ⟨_, rfl, _, _, t, _, dStr d, rfl, .ty "str", ty, kt, dStr d, rfl, ifnb (fun c => ?_) (fun c => ?_)⟩
    · have e : ansD d = .list [.str (Str.ofString "none"), .none] := by cases d <;> first | rfl | cases c
      refine ⟨sz (by simp), fun p hp => q _ _ (same_new hp) ?_⟩
      rw [e]
      exact .lst upd_same (.cons (.str _) (.cons .non .nil))
    obtain ⟨s0, rfl⟩ : ∃ s, d = .str s := by cases d <;> first | exact ⟨_, rfl⟩ | cases c
    cases hd.str_of
    obtain ⟨z, rfl⟩ : ∃ z, s0 = SX.S z := ⟨s0.cps.toList, (S_back s0).symm⟩
    have hz : TxtOk 500000 z := ht _ rfl
    have zl := hz.1
    have lz : (SX.S z).length + 2 ≤ sizeLine := by rw [SX.S_len, sizeLine_eq]; omega
    have rdz : readD (.str (SX.S z)) = match badLine (linesIn z) with
        | some j => .inl (some j)
        | none => if (linesIn z).length > 64 then .inl none else .inr (linesIn z) := rfl
    have lin : linesIn z = (TL.spl [10] 0 [] z).map rowIn := rfl
    have lw := spl_len 10 z []
    have lm := hz.spl 10
    refine ⟨sz (by simp), fun F hF => ?_⟩
    have sF := same_new (o := .lst []) hF
    have eF : (upd H F (.lst [])) F = some (.lst []) := upd_same
    generalize upd H F _ = H0 at sF eF ⊢
    refine ⟨_, rfl, rfl, _, _, rfl, rfl, by decide +kernel, lz, fun p0 hp0 => ?_⟩
    rw [show Txt.split (SX.S z) (Str.ofString "\n") = (TL.spl [10] 0 [] z).map SX.S from by rw [nl_S]; exact split_one 10 (by decide) z, List.map_map]
    generalize linesIn z = rs at rdz lin
    generalize TL.spl [10] 0 [] z = ws at lw lm lin ⊢
    have S1 := same_new (o := .lst (ws.map (V.str ∘ SX.S))) hp0
    have e1 : (upd H0 p0 (.lst (ws.map (V.str ∘ SX.S)))) p0 = some (.lst (ws.map (V.str ∘ SX.S))) := upd_same
    have nF : F ≠ p0 := ne_of_none eF hp0
    replace eF := S1 _ _ eF
    have SH := sF.trans S1
    have hF0 : H F = none := hF
    clear sF hp0 S1
    generalize upd H0 p0 _ = H1 at SH e1 eF ⊢
    refine ⟨p0, _, rfl, .of e1, for_it (walk_enum (K := K) (a := p0) (xs := ws.map (V.str ∘ SX.S))) (fun i σ H' => ∃ v2 v3 v4 vs, σ = [some (.str (SX.S z)), some (.ref F), v2, v3, v4] ∧ But F H1 H' ∧ Same H H' ∧ H' F = some (.lst vs) ∧ vs.length = i ∧ DxAll (hide F H') vs ((ws.take i).map rowIn) ∧ ∀ j d, j < i → rs[j]? = some d → isNone d = false) ⟨_, _, _, _, rfl, But.refl F H1, SH, eF, rfl, .nil, fun _ _ h => absurd h (by omega)⟩ (fun i σ H' _ ⟨_, _, _, _, _, b, _⟩ => .of (b _ _ nF.symm e1)) ?_ ?_⟩
    · rintro i x σ H2 H3 hi ⟨v2, v3, v4, vs, rfl, b, sm, hl, len, dx, ok⟩ ⟨Tp, y1, y2, rfl, hn, rfl, hy1, hy2⟩
      cases hy1
      obtain ⟨zi, hzi, rfl⟩ : ∃ zi, ws[i]? = some zi ∧ y2 = V.str (SX.S zi) := by
        replace hy2 : (ws.map (V.str ∘ SX.S))[i]? = some y2 := hy2
        rw [List.getElem?_map] at hy2
        cases e : ws[i]? with
        | none => rw [e] at hy2; cases hy2
        | some k => rw [e] at hy2; exact ⟨k, rfl, (Option.some.inj hy2).symm⟩
      have il : i < ws.length := (List.getElem?_eq_some_iff.mp hzi).1
      have sT := same_new (o := .tup [V.int (i : Int), V.str (SX.S zi)]) hn
      refine ⟨Tp, _, rfl, .of upd_same, rfl, _, _, rfl, _, _, rfl, rfl, ?_⟩
      refine ⟨_, rfl, zi, rfl, lm zi (List.mem_of_getElem? hzi), fun v H5 s5 hv => ?_⟩
      have s25 := sT.trans s5
      have h5 := s25 _ _ hl
      have ri : rs[i]? = some (rowIn zi) := by rw [lin, List.getElem?_map, hzi]; rfl
      refine ⟨_, rfl, rfl, _, rfl, ifd (fun c => ?_) (fun c => ?_)⟩
      · have hb : badLine rs = some i := badLine_some ok ri ((dx_non hv).mp c)
        rw [hb] at rdz
        have e : ansD (.str (SX.S z)) = .list [.str (Str.ofString "none"), .int (i : Int)] := by
          unfold ansD; rw [rdz]
        refine ⟨_, rfl, sz (by simp), fun L hL => q _ _ ((sm.trans s25).trans (same_new hL)) ?_⟩
        rw [e]
        exact .lst upd_same (.cons (.str _) (.cons (.int _) .nil))
      · refine ⟨_, rfl, .inl ⟨rfl, _, .of h5⟩, _, rfl, F, vs, v, rfl, rfl, h5, by rw [len, sizeLine_eq]; omega, ?_⟩
        refine ⟨_, _, _, vs ++ [v], rfl, (b.trans (But.of s25)).upd, sameU' (sm.trans s25) hF0, upd_same, by rw [List.length_append, len]; rfl, ?_, fun j d hj hd => ?_⟩
        · rw [List.take_add_one, hzi, List.map_append]
          have hT : (upd H2 Tp (.tup [V.int (i : Int), V.str (SX.S zi)])) F = some (.lst vs) := sT _ _ hl
          exact (dx.same (hide_but ((But.of s25).upd))).snoc ((hv.same (news_hideG hT)).same (hide_but ((But.refl F H5).upd)))
        · rcases Nat.lt_succ_iff_lt_or_eq.mp hj with h | h
          · exact ok j d h hd
          · subst h
            rw [ri] at hd
            cases hd
            cases e : isNone (rowIn zi) with
            | false => rfl
            | true => exact absurd ((dx_non hv).mpr e) c
    rintro σ H2 ⟨v2, v3, v4, vs, rfl, b, sm, hl, len, dx, ok⟩
    rw [List.length_map] at len dx ok
    rw [List.take_length, ← lin] at dx
    have lr := dx.length
    have hb : badLine rs = none := badLine_none (by omega) ok
    rw [hb] at rdz
    refine ⟨_, rfl, F, _, rfl, .inl (.of hl), _, _, rfl, rfl, _, rfl, ifd (fun c => ?_) (fun c => ?_)⟩
    · have e : ansD (.str (SX.S z)) = .list [.str (Str.ofString "none"), .none] := by
        unfold ansD
        rw [rdz]
        dsimp only
        rw [if_pos (by omega)]
      refine ⟨sz (by simp), fun L hL => q _ _ (sm.trans (same_new hL)) ?_⟩
      rw [e]
      exact .lst upd_same (.cons (.str _) (.cons .non .nil))
    · have e : ansD (.str (SX.S z)) = .list rs := by
        unfold ansD
        rw [rdz]
        dsimp only
        rw [if_neg (by omega)]
      refine ⟨_, rfl, q _ _ sm ?_⟩
      rw [e]
      exact .lst hl (dx.same (hide_same F H2))

def sp__law_told (K : PySem.W.Frag) : Sp := fun vs H Q _ => ∃ v d, vs = [v] ∧ Dx H v d ∧ (∀ s, d = .str s → TxtOk 500000 s.cps.toList) ∧ ∀ v' H', Same H H' → Dx H' v' (ansD d) → Q v' H'
theorem ok__law_told {f : Addr} {fd : FuncData} (F : Fun K "_law_told" "_law_told" s__law_told f fd) (T : Txt K w mg) (C_read_rows : CalX P w K mg base "read_rows" 7 ["text"] (sp_read_rows K)) : FnOk P w K mg base CX0 8 f fd ["_law_lines"] (sp__law_told K) := by
  obtain ⟨p_NoRows, hk_NoRows, ak_NoRows⟩ := T.k_NoRows
  obtain ⟨p_NoText, hk_NoText, ak_NoText⟩ := T.k_NoText
  obtain ⟨p_ReachError, hk_ReachError, ak_ReachError⟩ := T.k_ReachError
  refine F.ok sc__law_told (fun vs H Q E h => ?_) (fun cdv A outer s H vs Q E hr h => ?_)
  · obtain ⟨v, d, rfl, hd, ht, q⟩ := h; rfl
  · obtain ⟨v, d, rfl, hd, ht, q⟩ := h
    refine ⟨_, (pss_cons (ps_set (i := 1) sc__law_told.nd rfl (.inl rfl) pe_non)
      (pss_cons (ps_set (i := 2) sc__law_told.nd rfl (.inl rfl) pe_non)
      (pss_cons (ps_try_keep (i := 3) (c := .ref p_ReachError) (Wout := fun _ _ _ _ => False) rfl rfl rfl sc__law_told.nd rfl rfl ⟨rfl, by decide, .inl hk_ReachError⟩ takes0
      (fun W pn xe tk _ => (pss_one (ps_set (i := 2) sc__law_told.nd rfl (.inl rfl) (by exact (pe_calX C_read_rows (hr.mono (by decide)) tk (by exact (pa_cons (pv 0) pa_nil)))))))
      (fun a oe cls d pn hz hf => (pss_one (ps_set (i := 1) sc__law_told.nd rfl (.inl rfl) (pv 3)))))
      (pss_cons (ps_if (pt_cmpR op_isN (pv 1) pe_non (nomark _)) (pss_one (ps_ret (pv 2))) pss_nil)
      (pss_one (ps_ret (pe_ifExp (PW.pt (pw_and (pt_val (pe_callB call_isX (by rfl) T.z_isinstance (by decide +kernel) (pa_cons (pv 1) (pa_cons (pe_glob (v := .ref p_NoText) (by rfl) hk_NoText rfl) pa_nil)))) (pw_and1 (pt_not (pt_val (pe_callB call_isX (by rfl) T.z_isinstance (by decide +kernel) (pa_cons (pv 1) (pa_cons (pe_glob (v := .ref p_NoRows) (by rfl) hk_NoRows rfl) pa_nil)))))))) (pe_lst (pa_cons pe_str (pa_cons (pe_kf (pv 1)) pa_nil))) pe_str))))))), ?_⟩
    have numN : ∀ n : Option Nat, readD d = .inl n → ∀ (H' : Hp) (L : Addr), H' L = some (.lst [.str (Str.ofString "none"), numV n]) → Dx H' (.ref L) (ansD d) := fun n e H' L hL => by
      unfold ansD
      rw [e]
      refine .lst hL (.cons (.str _) (.cons ?_ .nil))
      cases n with
      | none => exact .non
      | some k => exact .int _
    refine ⟨_, rfl, v, d, rfl, hd, fun s e => Nat.le_trans (ht s e).1 (by decide), fun rs e p9 H9 s9 n9 d9 => ?_, fun n e C x H1 hC sm hx => ?_⟩
    · refine ⟨_, rfl, rfl, _, rfl, ifd (fun _ => ?_) (fun c => absurd rfl c)⟩
      refine ⟨_, rfl, q _ _ s9 ?_⟩
      unfold ansD
      rw [e]
      exact d9
    · refine ⟨true, T.x_NoText_ReachError _ _ hC ak_ReachError, fun _ a na => ?_, fun z => nomatch z⟩
      refine ⟨_, rfl, ?_⟩
      have nd : x ≠ a := ne_of_none upd_same na
      have e1 : (upd (upd H1 x (.xd [("number", numV n)])) a (kept a (.ref C) (some x))) a = some (kept a (.ref C) (some x)) := upd_same
      have e2 : (upd (upd H1 x (.xd [("number", numV n)])) a (kept a (.ref C) (some x))) x = some (.xd [("number", numV n)]) := by rw [upd_ne nd, upd_same]
      have sm2 : Same H (upd (upd H1 x (.xd [("number", numV n)])) a (kept a (.ref C) (some x))) := sameN (sameN sm hx) na
      refine ⟨_, rfl, rfl, _, rfl, ifd (fun c => by cases c) (fun _ => ?_)⟩
      generalize upd (upd H1 x (.xd [("number", numV n)])) a (kept a (.ref C) (some x)) = H2 at e1 e2 sm2 ⊢
      refine ⟨_, rfl, a, C, x, _, _, _, true, rfl, e1, e2, T.e_NoText _ hC, .own _, T.i_NoText_NoText _ _ hC ak_NoText, ?_⟩
      refine ⟨true, rfl, iteT ?_⟩
      refine ⟨_, rfl, a, C, x, _, _, _, false, rfl, e1, e2, T.e_NoText _ hC, .own _, T.i_NoText_NoRows _ _ hC ak_NoRows, ?_⟩
      refine ⟨false, rfl, iteT ?_⟩
      refine ⟨_, rfl, a, C, x, _, _, rfl, e1, e2, T.e_NoText _ hC, T.f_NoText_number _ hC, rfl, sz (by simp), fun L hL => ?_⟩
      exact q _ _ (sameN sm2 hL) (numN n e _ L upd_same)

def sp__law_bent (K : PySem.W.Frag) : Sp := fun vs H Q _ => ∃ (a : Addr) (x y : Int) (z : List Nat) (n : Nat), vs = [.ref a, .str (SX.S z)] ∧ Pool H a x y ∧ TxtOk n z ∧ n ≤ 20000 ∧ ∀ z' x1 y1 H', But a H H' → Pool H' a x1 y1 → TxtOk (4 * n + 100) z' → Q (.str (SX.S z')) H'
theorem ok__law_bent {f : Addr} {fd : FuncData} (F : Fun K "_law_bent" "_law_bent" s__law_bent f fd) (T : Txt K w mg) (C__law_take : Cal P w K mg base "_law_take" 1 ["_law_pool_here", "_law_many"] (sp__law_take K)) : FnOk P w K mg base CX0 2 f fd ["_law_pool_here", "_law_here"] (sp__law_bent K) := by
  refine F.ok sc__law_bent (fun vs H Q E h => ?_) (fun cdv A outer s H vs Q E hr h => ?_)
  · obtain ⟨a, x, y, z, n, rfl, hP, hz, hn, q⟩ := h; rfl
  · obtain ⟨a, x, y, z, n, rfl, hP, hz, hn, q⟩ := h
    refine ⟨_, (pss_cons (ps_set (i := 2) sc__law_bent.nd rfl (.inl rfl) (pe_bm PySem.F.plainAttrs_str PySem.F.slot_str_split PySem.F.type_str_split mt_split (pv 1) (pa_cons pe_str pa_nil)))
      (pss_cons (ps_set (i := 3) sc__law_bent.nd rfl (.inl rfl) (pe_cal C__law_take (hr.mono (by decide)) (pa_cons (pv 0) (pa_cons (pe_callB call_len_seq (by rfl) T.z_len (by decide +kernel) (pa_cons (pv 2) pa_nil)) pa_nil))))
      (pss_cons (ps_set (i := 4) sc__law_bent.nd rfl (.inl rfl) (pe_bm PySem.F.plainAttrs_str PySem.F.slot_str_split PySem.F.type_str_split mt_split (pe_ix (r := rIxL K) ix_list (pv 2) (pv 3) (fun _ _ => rfl)) (pa_cons pe_str pa_nil)))
      (pss_cons (ps_set (i := 5) sc__law_bent.nd rfl (.inl rfl) (pe_cal C__law_take (hr.mono (by decide)) (pa_cons (pv 0) (pa_cons (pe_callB call_len_seq (by rfl) T.z_len (by decide +kernel) (pa_cons (pv 4) pa_nil)) pa_nil))))
      (pss_cons (ps_set (i := 6) sc__law_bent.nd rfl (.inl rfl) (pe_lst (pa_cons pe_str (pa_cons pe_str (pa_cons pe_str (pa_cons pe_str (pa_cons pe_str (pa_cons pe_str (pa_cons pe_str (pa_cons pe_str (pa_cons pe_str (pa_cons pe_str (pa_cons pe_str (pa_cons pe_str (pa_cons pe_str (pa_cons pe_str (pa_cons pe_str (pa_cons pe_str (pa_cons pe_str pa_nil)))))))))))))))))))
      (pss_cons (ps_set (i := 6) sc__law_bent.nd rfl (.inl rfl) (pe_op op_cat (pv 6) (pe_lst (pa_cons pe_str (pa_cons pe_str (pa_cons pe_str (pa_cons pe_str (pa_cons pe_str (pa_cons pe_str (pa_cons pe_str (pa_cons pe_str (pa_cons pe_str (pa_cons pe_str (pa_cons pe_str pa_nil))))))))))))))
      (pss_cons (ps_set (i := 7) sc__law_bent.nd rfl (.inl rfl) (pe_lst (pa_cons (pe_lst (pa_cons (pe_ix (r := rIxL K) ix_list (pv 6) (pe_cal C__law_take (hr.mono (by decide)) (pa_cons (pv 0) (pa_cons pe_int pa_nil))) (fun _ _ => rfl)) pa_nil)) (pa_cons (pe_op op_rep (pe_lst (pa_cons (pe_ix (r := rIxL K) ix_list (pv 4) (pv 5) (fun _ _ => rfl)) pa_nil)) pe_int) (pa_cons (pe_lst pa_nil) (pa_cons (pe_lst (pa_cons (pe_ix (r := rIxL K) ix_list (pv 4) (pv 5) (fun _ _ => rfl)) (pa_cons (pe_ix (r := rIxL K) ix_list (pv 6) (pe_cal C__law_take (hr.mono (by decide)) (pa_cons (pv 0) (pa_cons pe_int pa_nil))) (fun _ _ => rfl)) pa_nil))) pa_nil))))))
      (pss_cons (ps_set (i := 8) sc__law_bent.nd rfl (.inl rfl) (pe_join pe_str (pe_op op_cat (pe_op op_cat (pe_slice sl_list (pv 4) po_none (po_some (pv 5))) (pe_ix (r := rIxL K) ix_list (pv 7) (pe_cal C__law_take (hr.mono (by decide)) (pa_cons (pv 0) (pa_cons pe_int pa_nil))) (fun _ _ => rfl))) (pe_slice sl_list (pv 4) (po_some (pe_op op_add (pv 5) pe_int)) po_none))))
      (pss_cons (ps_set (i := 9) sc__law_bent.nd rfl (.inl rfl) (pe_ix (r := rIxL K) ix_list (pe_lst (pa_cons pe_str (pa_cons pe_str (pa_cons pe_str (pa_cons pe_str (pa_cons pe_str (pa_cons pe_str (pa_cons pe_str pa_nil)))))))) (pe_cal C__law_take (hr.mono (by decide)) (pa_cons (pv 0) (pa_cons pe_int pa_nil))) (fun _ _ => rfl)))
      (pss_cons (ps_set (i := 10) sc__law_bent.nd rfl (.inl rfl) (pe_cal C__law_take (hr.mono (by decide)) (pa_cons (pv 0) (pa_cons (pe_op op_add (pe_callB call_len_str (by rfl) T.z_len (by decide +kernel) (pa_cons (pe_ix (r := rIxL K) ix_list (pv 2) (pv 3) (fun _ _ => rfl)) pa_nil)) pe_int) pa_nil))))
      (pss_cons (ps_set (i := 11) sc__law_bent.nd rfl (.inl rfl) (pe_lst (pa_cons (pv 8) (pa_cons (pv 8) (pa_cons (pv 8) (pa_cons pe_str (pa_cons (pe_op op_add_str (pe_op op_add_str (pe_ix (r := rIxL K) ix_list (pv 2) (pv 3) (fun _ _ => rfl)) pe_str) (pe_ix (r := rIxL K) ix_list (pv 2) (pv 3) (fun _ _ => rfl))) (pa_cons (pe_op op_add_str (pe_op op_add_str (pe_slice sl_str (pe_ix (r := rIxL K) ix_list (pv 2) (pv 3) (fun _ _ => rfl)) po_none (po_some (pv 10))) (pv 9)) (pe_slice sl_str (pe_ix (r := rIxL K) ix_list (pv 2) (pv 3) (fun _ _ => rfl)) (po_some (pv 10)) po_none)) pa_nil))))))))
      (pss_one (ps_ret (pe_join pe_str (pe_op op_cat (pe_op op_cat (pe_slice sl_list (pv 2) po_none (po_some (pv 3))) (pe_lst (pa_cons (pe_ix (r := rIxL K) ix_list (pv 11) (pe_cal C__law_take (hr.mono (by decide)) (pa_cons (pv 0) (pa_cons pe_int pa_nil))) (fun _ _ => rfl)) pa_nil))) (pe_slice sl_list (pv 2) (po_some (pe_op op_add (pv 3) pe_int)) po_none)))))))))))))))), ?_⟩
    have B := But.refl a H
    have P := hP
    clear hP
    have zl := hz.1
    have lz : (SX.S z).length + 2 ≤ sizeLine := by rw [SX.S_len, sizeLine_eq]; omega
    refine ⟨_, rfl, rfl, _, _, rfl, rfl, by decide +kernel, lz, fun pL hpL => ?_⟩
    rw [show Txt.split (SX.S z) (Str.ofString "\n") = (TL.spl [10] 0 [] z).map SX.S from by rw [nl_S]; exact split_one 10 (by decide) z, List.map_map]
    have lok := hz.spl 10
    have lne := spl_ne 10 z []
    have lW := W_spl 10 z []
    generalize TL.spl [10] 0 [] z = ls at lok lne lW ⊢
    have lC : AllC ls := fun x hx => (lok x hx).2
    have l0 : 0 < ls.length := by cases ls with
      | nil => exact absurd rfl lne
      | cons _ _ => simp
    have FL := LA.new (xs := (ls.map (V.str ∘ SX.S))) P hpL
    have BX := But.of (a := a) (same_new (H := H) (o := .lst (ls.map (V.str ∘ SX.S))) hpL)
    replace P := P.new (o := .lst (ls.map (V.str ∘ SX.S))) hpL
    replace B := B.trans BX
    clear BX
    generalize upd H pL (.lst (ls.map (V.str ∘ SX.S))) = G1 at FL P B ⊢
    clear hpL
    obtain ⟨G, hG⟩ : ∃ G, G = G1 := ⟨_, rfl⟩
    subst hG
    have ll : (ls.map (V.str ∘ SX.S)).length = ls.length := List.length_map _
    have llen : ls.length ≤ n + 1 := by
      have := W_sum ls
      simp only [List.length_nil] at lW
      omega
    refine ⟨_, rfl, _, rfl, pL, _, rfl, .inl (.of FL.1), a, x, y, _, rfl, P, by omega, by omega, fun r1 x1 y1 r10 r11 P1 => ?_⟩
    obtain ⟨m, rfl⟩ : ∃ m : Nat, r1 = (m : Int) := ⟨r1.toNat, by omega⟩
    have hm : m < ls.length := by omega
    clear r10 r11
    have BX : But a G (upd G a (.lst [.int x1, .int y1])) := (But.refl a G).upd
    clear P
    have P := P1
    clear P1
    replace FL := FL.but BX
    replace B := B.trans BX
    clear BX
    generalize upd G a (.lst [.int x1, .int y1]) = G1 at FL P B ⊢
    clear G
    obtain ⟨G, hG⟩ : ∃ G, G = G1 := ⟨_, rfl⟩
    subst hG
    clear x y
    obtain ⟨x, y, hx, hy⟩ : ∃ x y, x = x1 ∧ y = y1 := ⟨_, _, rfl, rfl⟩
    subst hx hy
    obtain ⟨zm, hzm⟩ : ∃ zm, ls[m]? = some zm := ⟨ls[m], List.getElem?_eq_getElem hm⟩
    have zmok : TxtOk n zm := lok zm (List.mem_of_getElem? hzm)
    have zml := zmok.1
    have lzm : (SX.S zm).length + 2 ≤ sizeLine := by rw [SX.S_len, sizeLine_eq]; omega
    refine ⟨_, rfl, _, rfl, pL, _, _, V.str (SX.S zm), rfl, rfl, .of FL.1, at_map hzm, rfl, _, _, rfl, rfl, by decide +kernel, lzm, fun pW hpW => ?_⟩
    rw [show Txt.split (SX.S zm) (Str.ofString " ") = (TL.spl [32] 0 [] zm).map SX.S from by rw [blank_S]; exact split_one 32 (by decide) zm, List.map_map]
    have wok := zmok.spl 32
    have wne := spl_ne 32 zm []
    have wW := W_spl 32 zm []
    generalize TL.spl [32] 0 [] zm = ws at wok wne wW ⊢
    have wC : AllC ws := fun x hx => (wok x hx).2
    have w0 : 0 < ws.length := by cases ws with
      | nil => exact absurd rfl wne
      | cons _ _ => simp
    have FW := LA.new (xs := (ws.map (V.str ∘ SX.S))) P hpW
    have BX := But.of (a := a) (same_new (H := G) (o := .lst (ws.map (V.str ∘ SX.S))) hpW)
    replace P := P.new (o := .lst (ws.map (V.str ∘ SX.S))) hpW
    replace FL := FL.but BX
    replace B := B.trans BX
    clear BX
    generalize upd G pW (.lst (ws.map (V.str ∘ SX.S))) = G1 at FL FW P B ⊢
    clear hpW
    clear G
    obtain ⟨G, hG⟩ : ∃ G, G = G1 := ⟨_, rfl⟩
    subst hG
    have wl : (ws.map (V.str ∘ SX.S)).length = ws.length := List.length_map _
    have wlen : ws.length ≤ n + 1 := by
      have := W_sum ws
      simp only [List.length_nil] at wW
      omega
    refine ⟨_, rfl, _, rfl, pW, _, rfl, .inl (.of FW.1), a, x, y, _, rfl, P, by omega, by omega, fun r1 x1 y1 r10 r11 P1 => ?_⟩
    obtain ⟨sp, rfl⟩ : ∃ m : Nat, r1 = (m : Int) := ⟨r1.toNat, by omega⟩
    have hsp : sp < ws.length := by omega
    clear r10 r11
    have BX : But a G (upd G a (.lst [.int x1, .int y1])) := (But.refl a G).upd
    clear P
    have P := P1
    clear P1
    replace FL := FL.but BX
    replace FW := FW.but BX
    replace B := B.trans BX
    clear BX
    generalize upd G a (.lst [.int x1, .int y1]) = G1 at FL FW P B ⊢
    clear G
    obtain ⟨G, hG⟩ : ∃ G, G = G1 := ⟨_, rfl⟩
    subst hG
    clear x y
    obtain ⟨x, y, hx, hy⟩ : ∃ x y, x = x1 ∧ y = y1 := ⟨_, _, rfl, rfl⟩
    subst hx hy
    obtain ⟨zs, hzs⟩ : ∃ zs, ws[sp]? = some zs := ⟨ws[sp], List.getElem?_eq_getElem hsp⟩
    have zsok : TxtOk n zs := wok zs (List.mem_of_getElem? hzs)
    refine ⟨sz (by simp), fun pO hpO => ?_⟩
    rw [show ([V.str (Str.ofString ""), V.str (Str.ofString "0"), V.str (Str.ofString "8"), V.str (Str.ofString "#5"), V.str (Str.ofString "#65536"), V.str (Str.ofString "-1"), V.str (Str.ofString "-9"), V.str (Str.ofString "16"), V.str (Str.ofString "00"), V.str (Str.ofString "-0"), V.str (Str.ofString "+1"), V.str (Str.ofString "#-1"), V.str (Str.ofString "rw"), V.str (Str.ofString "wr"), V.str (Str.ofString "-"), V.str (Str.ofString "plus"), V.str (Str.ofString "do")] : List V) = oddA.map V.str from rfl]
    have FO := LA.new (xs := (oddA.map V.str)) P hpO
    have BX := But.of (a := a) (same_new (H := G) (o := .lst (oddA.map V.str)) hpO)
    replace P := P.new (o := .lst (oddA.map V.str)) hpO
    replace FL := FL.but BX
    replace FW := FW.but BX
    replace B := B.trans BX
    clear BX
    generalize upd G pO (.lst (oddA.map V.str)) = G1 at FL FW FO P B ⊢
    clear hpO
    clear G
    obtain ⟨G, hG⟩ : ∃ G, G = G1 := ⟨_, rfl⟩
    subst hG
    refine ⟨_, rfl, sz (by simp), fun pB hpB => ?_⟩
    rw [show ([V.str (Str.ofString "same"), V.str (Str.ofString "mark"), V.str (Str.ofString "4096"), V.str (Str.ofString "x1"), V.str (Str.ofString "#"), V.str (Str.ofString "1.0"), V.str (Str.ofString "set"), V.str (Str.ofString "back"), V.str (Str.ofString "here"), V.str (Str.ofString "000001"), V.str (Str.ofString "back back")] : List V) = oddB.map V.str from rfl]
    have FB := LA.new (xs := (oddB.map V.str)) P hpB
    have BX := But.of (a := a) (same_new (H := G) (o := .lst (oddB.map V.str)) hpB)
    replace P := P.new (o := .lst (oddB.map V.str)) hpB
    replace FL := FL.but BX
    replace FW := FW.but BX
    replace FO := FO.but BX
    replace B := B.trans BX
    clear BX
    generalize upd G pB (.lst (oddB.map V.str)) = G1 at FL FW FO FB P B ⊢
    clear hpB
    clear G
    obtain ⟨G, hG⟩ : ∃ G, G = G1 := ⟨_, rfl⟩
    subst hG
    refine ⟨pO, pB, _, _, rfl, rfl, FO.1, FB.1, sz (by decide), fun pC hpC => ?_⟩
    rw [← List.map_append]
    have FC := LA.new (xs := ((oddA ++ oddB).map V.str)) P hpC
    have BX := But.of (a := a) (same_new (H := G) (o := .lst ((oddA ++ oddB).map V.str)) hpC)
    replace P := P.new (o := .lst ((oddA ++ oddB).map V.str)) hpC
    replace FL := FL.but BX
    replace FW := FW.but BX
    replace FO := FO.but BX
    replace FB := FB.but BX
    replace B := B.trans BX
    clear BX
    generalize upd G pC (.lst ((oddA ++ oddB).map V.str)) = G1 at FL FW FO FB FC P B ⊢
    clear hpC
    clear G
    obtain ⟨G, hG⟩ : ∃ G, G = G1 := ⟨_, rfl⟩
    subst hG
    clear FO FB
    refine ⟨_, rfl, _, rfl, a, x, y, _, rfl, P, by decide, by decide, fun r1 x1 y1 r10 r11 P1 => ?_⟩
    obtain ⟨v, hv, zo1, rfl, ok1⟩ := pick (xs := (oddA ++ oddB).map V.str) _ r10 r11 (shorts_ok odd_ok.1)
    clear r10 r11
    have BX : But a G (upd G a (.lst [.int x1, .int y1])) := (But.refl a G).upd
    clear P
    have P := P1
    clear P1
    replace FL := FL.but BX
    replace FW := FW.but BX
    replace FC := FC.but BX
    replace B := B.trans BX
    clear BX
    generalize upd G a (.lst [.int x1, .int y1]) = G1 at FL FW FC P B ⊢
    clear G
    obtain ⟨G, hG⟩ : ∃ G, G = G1 := ⟨_, rfl⟩
    subst hG
    clear x y
    obtain ⟨x, y, hx, hy⟩ : ∃ x y, x = x1 ∧ y = y1 := ⟨_, _, rfl, rfl⟩
    subst hx hy
    refine ⟨pC, _, _, _, rfl, rfl, .of FC.1, hv, sz (by simp), fun q1 hq1 => ?_⟩
    clear hv
    have F1 := LA.new (xs := [V.str (SX.S zo1)]) P hq1
    have BX := But.of (a := a) (same_new (H := G) (o := .lst [V.str (SX.S zo1)]) hq1)
    replace P := P.new (o := .lst [V.str (SX.S zo1)]) hq1
    replace FL := FL.but BX
    replace FW := FW.but BX
    replace FC := FC.but BX
    replace B := B.trans BX
    clear BX
    generalize upd G q1 (.lst [V.str (SX.S zo1)]) = G1 at FL FW FC F1 P B ⊢
    clear hq1
    clear G
    obtain ⟨G, hG⟩ : ∃ G, G = G1 := ⟨_, rfl⟩
    subst hG
    refine ⟨_, rfl, _, rfl, pW, _, _, V.str (SX.S zs), rfl, rfl, .of FW.1, at_map hzs, sz (by simp), fun q0 hq0 => ?_⟩
    have F0 := LA.new (xs := [V.str (SX.S zs)]) P hq0
    have BX := But.of (a := a) (same_new (H := G) (o := .lst [V.str (SX.S zs)]) hq0)
    replace P := P.new (o := .lst [V.str (SX.S zs)]) hq0
    replace FL := FL.but BX
    replace FW := FW.but BX
    replace FC := FC.but BX
    replace F1 := F1.but BX
    replace B := B.trans BX
    clear BX
    generalize upd G q0 (.lst [V.str (SX.S zs)]) = G1 at FL FW FC F1 F0 P B ⊢
    clear hq0
    clear G
    obtain ⟨G, hG⟩ : ∃ G, G = G1 := ⟨_, rfl⟩
    subst hG
    refine ⟨q0, 2, _, rfl, rfl, F0.1, by decide, by decide, sz (by show 1 * 2 ≤ 1000; decide), fun q2 hq2 => ?_⟩
    rw [show (List.replicate (2 : Int).toNat [V.str (SX.S zs)]).flatten = [V.str (SX.S zs), V.str (SX.S zs)] from rfl]
    have F2 := LA.new (xs := [V.str (SX.S zs), V.str (SX.S zs)]) P hq2
    have BX := But.of (a := a) (same_new (H := G) (o := .lst [V.str (SX.S zs), V.str (SX.S zs)]) hq2)
    replace P := P.new (o := .lst [V.str (SX.S zs), V.str (SX.S zs)]) hq2
    replace FL := FL.but BX
    replace FW := FW.but BX
    replace FC := FC.but BX
    replace F1 := F1.but BX
    replace F0 := F0.but BX
    replace B := B.trans BX
    clear BX
    generalize upd G q2 (.lst [V.str (SX.S zs), V.str (SX.S zs)]) = G1 at FL FW FC F1 F0 F2 P B ⊢
    clear hq2
    clear G
    obtain ⟨G, hG⟩ : ∃ G, G = G1 := ⟨_, rfl⟩
    subst hG
    clear F0
    refine ⟨sz (by simp), fun q3 hq3 => ?_⟩
    have F3 := LA.new (xs := ([] : List V)) P hq3
    have BX := But.of (a := a) (same_new (H := G) (o := .lst ([] : List V)) hq3)
    replace P := P.new (o := .lst ([] : List V)) hq3
    replace FL := FL.but BX
    replace FW := FW.but BX
    replace FC := FC.but BX
    replace F1 := F1.but BX
    replace F2 := F2.but BX
    replace B := B.trans BX
    clear BX
    generalize upd G q3 (.lst ([] : List V)) = G1 at FL FW FC F1 F2 F3 P B ⊢
    clear hq3
    clear G
    obtain ⟨G, hG⟩ : ∃ G, G = G1 := ⟨_, rfl⟩
    subst hG
    refine ⟨_, rfl, _, rfl, pW, _, _, V.str (SX.S zs), rfl, rfl, .of FW.1, at_map hzs, ?_⟩
    refine ⟨_, rfl, _, rfl, a, x, y, _, rfl, P, by decide, by decide, fun r1 x1 y1 r10 r11 P1 => ?_⟩
    obtain ⟨v, hv, zo2, rfl, ok2⟩ := pick (xs := (oddA ++ oddB).map V.str) _ r10 r11 (shorts_ok odd_ok.1)
    clear r10 r11
    have BX : But a G (upd G a (.lst [.int x1, .int y1])) := (But.refl a G).upd
    clear P
    have P := P1
    clear P1
    replace FL := FL.but BX
    replace FW := FW.but BX
    replace FC := FC.but BX
    replace F1 := F1.but BX
    replace F2 := F2.but BX
    replace F3 := F3.but BX
    replace B := B.trans BX
    clear BX
    generalize upd G a (.lst [.int x1, .int y1]) = G1 at FL FW FC F1 F2 F3 P B ⊢
    clear G
    obtain ⟨G, hG⟩ : ∃ G, G = G1 := ⟨_, rfl⟩
    subst hG
    clear x y
    obtain ⟨x, y, hx, hy⟩ : ∃ x y, x = x1 ∧ y = y1 := ⟨_, _, rfl, rfl⟩
    subst hx hy
    refine ⟨pC, _, _, _, rfl, rfl, .of FC.1, hv, sz (by simp), fun q4 hq4 => ?_⟩
    clear hv
    have F4 := LA.new (xs := [V.str (SX.S zs), V.str (SX.S zo2)]) P hq4
    have BX := But.of (a := a) (same_new (H := G) (o := .lst [V.str (SX.S zs), V.str (SX.S zo2)]) hq4)
    replace P := P.new (o := .lst [V.str (SX.S zs), V.str (SX.S zo2)]) hq4
    replace FL := FL.but BX
    replace FW := FW.but BX
    replace FC := FC.but BX
    replace F1 := F1.but BX
    replace F2 := F2.but BX
    replace F3 := F3.but BX
    replace B := B.trans BX
    clear BX
    generalize upd G q4 (.lst [V.str (SX.S zs), V.str (SX.S zo2)]) = G1 at FL FW FC F1 F2 F3 F4 P B ⊢
    clear hq4
    clear G
    obtain ⟨G, hG⟩ : ∃ G, G = G1 := ⟨_, rfl⟩
    subst hG
    clear FC
    refine ⟨sz (by simp), fun q5 hq5 => ?_⟩
    have F5 := LA.new (xs := [V.ref q1, .ref q2, .ref q3, .ref q4]) P hq5
    have BX := But.of (a := a) (same_new (H := G) (o := .lst [V.ref q1, .ref q2, .ref q3, .ref q4]) hq5)
    replace P := P.new (o := .lst [V.ref q1, .ref q2, .ref q3, .ref q4]) hq5
    replace FL := FL.but BX
    replace FW := FW.but BX
    replace F1 := F1.but BX
    replace F2 := F2.but BX
    replace F3 := F3.but BX
    replace F4 := F4.but BX
    replace B := B.trans BX
    clear BX
    generalize upd G q5 (.lst [V.ref q1, .ref q2, .ref q3, .ref q4]) = G1 at FL FW F1 F2 F3 F4 F5 P B ⊢
    clear hq5
    clear G
    obtain ⟨G, hG⟩ : ∃ G, G = G1 := ⟨_, rfl⟩
    subst hG
    refine ⟨⟨_, rfl⟩, _, rfl, _, rfl, _, rfl, pW, _, rfl, .of FW.1, fun s1 hs1 => ?_⟩
    rw [cut_head' (i := sp) (by omega), ← List.map_take]
    have G1a := LA.new (xs := ((ws.take sp).map (V.str ∘ SX.S))) P hs1
    have BX := But.of (a := a) (same_new (H := G) (o := .lst ((ws.take sp).map (V.str ∘ SX.S))) hs1)
    replace P := P.new (o := .lst ((ws.take sp).map (V.str ∘ SX.S))) hs1
    replace FL := FL.but BX
    replace FW := FW.but BX
    replace F1 := F1.but BX
    replace F2 := F2.but BX
    replace F3 := F3.but BX
    replace F4 := F4.but BX
    replace F5 := F5.but BX
    replace B := B.trans BX
    clear BX
    generalize upd G s1 (.lst ((ws.take sp).map (V.str ∘ SX.S))) = G1 at FL FW F1 F2 F3 F4 F5 G1a P B ⊢
    clear hs1
    clear G
    obtain ⟨G, hG⟩ : ∃ G, G = G1 := ⟨_, rfl⟩
    subst hG
    refine ⟨_, rfl, _, rfl, a, x, y, _, rfl, P, by decide, by decide, fun r1 x1 y1 r10 r11 P1 => ?_⟩
    have BX : But a G (upd G a (.lst [.int x1, .int y1])) := (But.refl a G).upd
    clear P
    have P := P1
    clear P1
    replace FL := FL.but BX
    replace FW := FW.but BX
    replace F1 := F1.but BX
    replace F2 := F2.but BX
    replace F3 := F3.but BX
    replace F4 := F4.but BX
    replace F5 := F5.but BX
    replace G1a := G1a.but BX
    replace B := B.trans BX
    clear BX
    generalize upd G a (.lst [.int x1, .int y1]) = G1 at FL FW F1 F2 F3 F4 F5 G1a P B ⊢
    clear G
    obtain ⟨G, hG⟩ : ∃ G, G = G1 := ⟨_, rfl⟩
    subst hG
    clear x y
    obtain ⟨x, y, hx, hy⟩ : ∃ x y, x = x1 ∧ y = y1 := ⟨_, _, rfl, rfl⟩
    subst hx hy
    have C1 : AllC [zo1] := AllC.one ok1.2
    have C2 : AllC [zs] := AllC.one zsok.2
    have C3 : AllC [zo2] := AllC.one ok2.2
    have zsl := zsok.1
    have zo1l := ok1.1
    have zo2l := ok2.1
    obtain ⟨v, hv, qm, mm, rfl, Fm, mC, mW⟩ := pick (xs := [V.ref q1, .ref q2, .ref q3, .ref q4]) (fun v => ∃ q mm, v = V.ref q ∧ LA a G q (mm.map (V.str ∘ SX.S)) ∧ AllC mm ∧ W mm ≤ 2 * n + 30) r10 r11
      (lcons ⟨_, [zo1], rfl, F1, C1, by show zo1.length + 1 + 0 ≤ _; omega⟩ (lcons ⟨_, [zs, zs], rfl, F2, AllC.app C2 C2, by show zs.length + 1 + (zs.length + 1 + 0) ≤ _; omega⟩ (lcons ⟨_, [], rfl, F3, AllC.nil, by show 0 ≤ _; omega⟩ (lcons ⟨_, [zs, zo2], rfl, F4, AllC.app C2 C3, by show zs.length + 1 + (zo2.length + 1 + 0) ≤ _; omega⟩ lnil))))
    have mlen : mm.length ≤ 2 * n + 30 := by have := W_sum mm; omega
    clear r10 r11
    refine ⟨q5, _, _, _, rfl, rfl, .of F5.1, hv, s1, qm, _, _, rfl, rfl, G1a.1, Fm.1, ?_, fun s2 hs2 => ?_⟩
    · rw [List.length_map, List.length_map, List.length_take, sizeLine_eq]; omega
    rw [← List.map_append]
    clear hv
    clear F1 F2 F3 F4 F5
    have G2a := LA.new (xs := ((ws.take sp ++ mm).map (V.str ∘ SX.S))) P hs2
    have BX := But.of (a := a) (same_new (H := G) (o := .lst ((ws.take sp ++ mm).map (V.str ∘ SX.S))) hs2)
    replace P := P.new (o := .lst ((ws.take sp ++ mm).map (V.str ∘ SX.S))) hs2
    replace FL := FL.but BX
    replace FW := FW.but BX
    replace G1a := G1a.but BX
    replace Fm := Fm.but BX
    replace B := B.trans BX
    clear BX
    generalize upd G s2 (.lst ((ws.take sp ++ mm).map (V.str ∘ SX.S))) = G1 at FL FW G1a Fm G2a P B ⊢
    clear hs2
    clear G
    obtain ⟨G, hG⟩ : ∃ G, G = G1 := ⟨_, rfl⟩
    subst hG
    clear Fm G1a
    refine ⟨_, rfl, _, rfl, _, _, rfl, rfl, _, rfl, pW, _, rfl, .of FW.1, fun s3 hs3 => ?_⟩
    rw [show cutV (ws.map (V.str ∘ SX.S)) (some ((sp : Int) + 1)) none = (ws.map (V.str ∘ SX.S)).drop (sp + 1) from cut_tail' (i := sp + 1) (by omega), ← List.map_drop]
    have G3a := LA.new (xs := ((ws.drop (sp + 1)).map (V.str ∘ SX.S))) P hs3
    have BX := But.of (a := a) (same_new (H := G) (o := .lst ((ws.drop (sp + 1)).map (V.str ∘ SX.S))) hs3)
    replace P := P.new (o := .lst ((ws.drop (sp + 1)).map (V.str ∘ SX.S))) hs3
    replace FL := FL.but BX
    replace FW := FW.but BX
    replace G2a := G2a.but BX
    replace B := B.trans BX
    clear BX
    generalize upd G s3 (.lst ((ws.drop (sp + 1)).map (V.str ∘ SX.S))) = G1 at FL FW G2a G3a P B ⊢
    clear hs3
    clear G
    obtain ⟨G, hG⟩ : ∃ G, G = G1 := ⟨_, rfl⟩
    subst hG
    refine ⟨s2, s3, _, _, rfl, rfl, G2a.1, G3a.1, ?_, fun s4 hs4 => ?_⟩
    · rw [List.length_map, List.length_map, List.length_append, List.length_take, List.length_drop, sizeLine_eq]; omega
    rw [← List.map_append]
    have G4a := LA.new (xs := ((ws.take sp ++ mm ++ ws.drop (sp + 1)).map (V.str ∘ SX.S))) P hs4
    have BX := But.of (a := a) (same_new (H := G) (o := .lst ((ws.take sp ++ mm ++ ws.drop (sp + 1)).map (V.str ∘ SX.S))) hs4)
    replace P := P.new (o := .lst ((ws.take sp ++ mm ++ ws.drop (sp + 1)).map (V.str ∘ SX.S))) hs4
    replace FL := FL.but BX
    replace FW := FW.but BX
    replace G2a := G2a.but BX
    replace G3a := G3a.but BX
    replace B := B.trans BX
    clear BX
    generalize upd G s4 (.lst ((ws.take sp ++ mm ++ ws.drop (sp + 1)).map (V.str ∘ SX.S))) = G1 at FL FW G2a G3a G4a P B ⊢
    clear hs4
    clear G
    obtain ⟨G, hG⟩ : ∃ G, G = G1 := ⟨_, rfl⟩
    subst hG
    clear G2a G3a
    have lineW : W (ws.take sp ++ mm ++ ws.drop (sp + 1)) ≤ 3 * n + 40 := by
      rw [W_app, W_app]
      have := W_at hzs
      simp only [List.length_nil] at wW
      omega
    have G4b := G4a.1
    rw [map_VS] at G4b
    refine ⟨_, s4, _, rfl, rfl, .inl (.of G4b), ?_, ?_⟩
    · rw [blank_S]; exact join_W (by omega)
    rw [show Txt.join (Str.ofString " ") ((ws.take sp ++ mm ++ ws.drop (sp + 1)).map SX.S) = SX.S (TL.joinL [32] (ws.take sp ++ mm ++ ws.drop (sp + 1))) from by rw [blank_S]; exact join_txt _ _]
    have zlok : TxtOk (3 * n + 40) (TL.joinL [32] (ws.take sp ++ mm ++ ws.drop (sp + 1))) := join_txtOk ((wC.take sp).app mC |>.app (wC.drop (sp + 1))) (by decide) lineW
    clear G4b G4a
    generalize TL.joinL [32] (ws.take sp ++ mm ++ ws.drop (sp + 1)) = zk at zlok ⊢
    clear lineW mC mW
    refine ⟨sz (by simp), fun p7 hp7 => ?_⟩
    rw [show ([V.str (Str.ofString " "), V.str (Str.ofString "\n"), V.str (Str.ofString "0"), V.str (Str.ofString "a"), V.str (Str.ofString "#"), V.str (Str.ofString "-"), V.str (Str.ofString "+")] : List V) = oddC.map V.str from rfl]
    have F7 := LA.new (xs := (oddC.map V.str)) P hp7
    have BX := But.of (a := a) (same_new (H := G) (o := .lst (oddC.map V.str)) hp7)
    replace P := P.new (o := .lst (oddC.map V.str)) hp7
    replace FL := FL.but BX
    replace FW := FW.but BX
    replace B := B.trans BX
    clear BX
    generalize upd G p7 (.lst (oddC.map V.str)) = G1 at FL FW F7 P B ⊢
    clear hp7
    clear G
    obtain ⟨G, hG⟩ : ∃ G, G = G1 := ⟨_, rfl⟩
    subst hG
    refine ⟨_, rfl, a, x, y, _, rfl, P, by decide, by decide, fun r1 x1 y1 r10 r11 P1 => ?_⟩
    obtain ⟨v, hv, zc, rfl, okc⟩ := pick (xs := oddC.map V.str) _ r10 r11 (shorts_ok odd_ok.2)
    clear r10 r11
    have BX : But a G (upd G a (.lst [.int x1, .int y1])) := (But.refl a G).upd
    clear P
    have P := P1
    clear P1
    replace FL := FL.but BX
    replace FW := FW.but BX
    replace F7 := F7.but BX
    replace B := B.trans BX
    clear BX
    generalize upd G a (.lst [.int x1, .int y1]) = G1 at FL FW F7 P B ⊢
    clear G
    obtain ⟨G, hG⟩ : ∃ G, G = G1 := ⟨_, rfl⟩
    subst hG
    clear x y
    obtain ⟨x, y, hx, hy⟩ : ∃ x y, x = x1 ∧ y = y1 := ⟨_, _, rfl, rfl⟩
    subst hx hy
    refine ⟨p7, _, _, _, rfl, rfl, .of F7.1, hv, ?_⟩
    clear hv
    clear F7
    have lzm0 : (SX.S zm).length ≤ sizeLine := by omega
    have ezm : (SX.S zm).length = zm.length := SX.S_len zm
    refine ⟨_, rfl, _, rfl, _, rfl, pL, _, _, V.str (SX.S zm), rfl, rfl, .of FL.1, at_map hzm, _, rfl, lzm0, _, _, rfl, rfl, a, x, y, _, rfl, P, by omega, by omega, fun r1 x1 y1 r10 r11 P1 => ?_⟩
    obtain ⟨pl, rfl⟩ : ∃ m : Nat, r1 = (m : Int) := ⟨r1.toNat, by omega⟩
    clear r10 r11
    have BX : But a G (upd G a (.lst [.int x1, .int y1])) := (But.refl a G).upd
    clear P
    have P := P1
    clear P1
    replace FL := FL.but BX
    replace FW := FW.but BX
    replace B := B.trans BX
    clear BX
    generalize upd G a (.lst [.int x1, .int y1]) = G1 at FL FW P B ⊢
    clear G
    obtain ⟨G, hG⟩ : ∃ G, G = G1 := ⟨_, rfl⟩
    subst hG
    clear x y
    obtain ⟨x, y, hx, hy⟩ : ∃ x y, x = x1 ∧ y = y1 := ⟨_, _, rfl, rfl⟩
    subst hx hy
    have zcl := okc.1
    have l1 : ∀ z : List Nat, (SX.S z).length = z.length := SX.S_len
    have lnl : (Str.ofString "\n").length = 1 := by rw [nl_S]; rfl
    refine ⟨_, rfl, _, rfl, _, rfl, _, rfl, _, rfl, pL, _, _, V.str (SX.S zm), rfl, rfl, .of FL.1, at_map hzm, _, _, rfl, rfl, by rw [sizeLine_eq, lnl]; omega, ?_⟩
    rw [show SX.S zm ++ Str.ofString "\n" = SX.S (zm ++ [10]) from by rw [nl_S, SX.S_cat]]
    refine ⟨_, rfl, _, rfl, pL, _, _, V.str (SX.S zm), rfl, rfl, .of FL.1, at_map hzm, _, _, rfl, rfl, by rw [sizeLine_eq, l1, List.length_append, List.length_singleton]; omega, ?_⟩
    rw [SX.S_cat]
    refine ⟨_, rfl, _, rfl, pL, _, _, V.str (SX.S zm), rfl, rfl, .of FL.1, at_map hzm, _, rfl, _, rfl, _, rfl, lzm0, ?_⟩
    rw [cutS_to]
    refine ⟨_, rfl, _, _, rfl, rfl, by rw [sizeLine_eq, l1, l1, List.length_take]; omega, ?_⟩
    rw [SX.S_cat]
    refine ⟨_, rfl, _, rfl, pL, _, _, V.str (SX.S zm), rfl, rfl, .of FL.1, at_map hzm, _, rfl, _, rfl, _, rfl, lzm0, ?_⟩
    rw [cutS_from]
    refine ⟨_, _, rfl, rfl, by rw [sizeLine_eq, l1, l1, List.length_append, List.length_take, List.length_drop]; omega, ?_⟩
    rw [SX.S_cat]
    refine ⟨sz (by simp), fun p8 hp8 => ?_⟩
    have zmC := zmok.2
    have zcC := okc.2
    have k1 : TxtOk (3 * n + 40) (zm ++ [10] ++ zm) := ⟨by rw [List.length_append, List.length_append, List.length_singleton]; omega, fun c hc => by
      rcases List.mem_append.mp hc with h | h
      · rcases List.mem_append.mp h with h | h
        · exact zmC c h
        · rw [List.mem_singleton.mp h]; decide
      · exact zmC c h⟩
    have k2 : TxtOk (3 * n + 40) (zm.take pl ++ zc ++ zm.drop pl) := ⟨by rw [List.length_append, List.length_append, List.length_take, List.length_drop]; omega, fun c hc => by
      rcases List.mem_append.mp hc with h | h
      · rcases List.mem_append.mp h with h | h
        · exact zmC c (List.mem_of_mem_take h)
        · exact zcC c h
      · exact zmC c (List.mem_of_mem_drop h)⟩
    generalize zm ++ [10] ++ zm = za at k1 ⊢
    generalize zm.take pl ++ zc ++ zm.drop pl = zb at k2 ⊢
    have F8 := LA.new (xs := [V.str (SX.S zk), .str (SX.S zk), .str (SX.S zk), .str (Str.ofString ""), .str (SX.S za), .str (SX.S zb)]) P hp8
    have BX := But.of (a := a) (same_new (H := G) (o := .lst [V.str (SX.S zk), .str (SX.S zk), .str (SX.S zk), .str (Str.ofString ""), .str (SX.S za), .str (SX.S zb)]) hp8)
    replace P := P.new (o := .lst [V.str (SX.S zk), .str (SX.S zk), .str (SX.S zk), .str (Str.ofString ""), .str (SX.S za), .str (SX.S zb)]) hp8
    replace FL := FL.but BX
    replace FW := FW.but BX
    replace B := B.trans BX
    clear BX
    generalize upd G p8 (.lst [V.str (SX.S zk), .str (SX.S zk), .str (SX.S zk), .str (Str.ofString ""), .str (SX.S za), .str (SX.S zb)]) = G1 at FL FW F8 P B ⊢
    clear hp8
    clear G
    obtain ⟨G, hG⟩ : ∃ G, G = G1 := ⟨_, rfl⟩
    subst hG
    refine ⟨⟨_, rfl⟩, _, rfl, _, rfl, _, rfl, pL, _, rfl, .of FL.1, fun s1 hs1 => ?_⟩
    rw [cut_head' (i := m) (by omega), ← List.map_take]
    have G1a := LA.new (xs := ((ls.take m).map (V.str ∘ SX.S))) P hs1
    have BX := But.of (a := a) (same_new (H := G) (o := .lst ((ls.take m).map (V.str ∘ SX.S))) hs1)
    replace P := P.new (o := .lst ((ls.take m).map (V.str ∘ SX.S))) hs1
    replace FL := FL.but BX
    replace FW := FW.but BX
    replace F8 := F8.but BX
    replace B := B.trans BX
    clear BX
    generalize upd G s1 (.lst ((ls.take m).map (V.str ∘ SX.S))) = G1 at FL FW F8 G1a P B ⊢
    clear hs1
    clear G
    obtain ⟨G, hG⟩ : ∃ G, G = G1 := ⟨_, rfl⟩
    subst hG
    refine ⟨_, rfl, _, rfl, a, x, y, _, rfl, P, by decide, by decide, fun r1 x1 y1 r10 r11 P1 => ?_⟩
    have BX : But a G (upd G a (.lst [.int x1, .int y1])) := (But.refl a G).upd
    clear P
    have P := P1
    clear P1
    replace FL := FL.but BX
    replace FW := FW.but BX
    replace F8 := F8.but BX
    replace G1a := G1a.but BX
    replace B := B.trans BX
    clear BX
    generalize upd G a (.lst [.int x1, .int y1]) = G1 at FL FW F8 G1a P B ⊢
    clear G
    obtain ⟨G, hG⟩ : ∃ G, G = G1 := ⟨_, rfl⟩
    subst hG
    clear x y
    obtain ⟨x, y, hx, hy⟩ : ∃ x y, x = x1 ∧ y = y1 := ⟨_, _, rfl, rfl⟩
    subst hx hy
    obtain ⟨v, hv, zv, rfl, kv⟩ := pick (xs := [V.str (SX.S zk), .str (SX.S zk), .str (SX.S zk), .str (Str.ofString ""), .str (SX.S za), .str (SX.S zb)]) (fun v => ∃ z, v = V.str (SX.S z) ∧ TxtOk (3 * n + 40) z) r10 r11
      (lcons ⟨_, rfl, zlok⟩ (lcons ⟨_, rfl, zlok⟩ (lcons ⟨_, rfl, zlok⟩ (lcons ⟨[], congrArg V.str nil_S, by show 0 ≤ _; omega, fun _ h => nomatch h⟩ (lcons ⟨_, rfl, k1⟩ (lcons ⟨_, rfl, k2⟩ lnil))))))
    clear r10 r11
    have kvl := kv.1
    refine ⟨p8, _, _, _, rfl, rfl, .of F8.1, hv, sz (by simp), fun s0 hs0 => ?_⟩
    clear hv
    have G0a := LA.new (xs := [V.str (SX.S zv)]) P hs0
    have BX := But.of (a := a) (same_new (H := G) (o := .lst [V.str (SX.S zv)]) hs0)
    replace P := P.new (o := .lst [V.str (SX.S zv)]) hs0
    replace FL := FL.but BX
    replace FW := FW.but BX
    replace F8 := F8.but BX
    replace G1a := G1a.but BX
    replace B := B.trans BX
    clear BX
    generalize upd G s0 (.lst [V.str (SX.S zv)]) = G1 at FL FW F8 G1a G0a P B ⊢
    clear hs0
    clear G
    obtain ⟨G, hG⟩ : ∃ G, G = G1 := ⟨_, rfl⟩
    subst hG
    refine ⟨s1, s0, _, _, rfl, rfl, G1a.1, G0a.1, ?_, fun s2 hs2 => ?_⟩
    · rw [List.length_map, List.length_take, sizeLine_eq, List.length_singleton]; omega
    rw [show (ls.take m).map (V.str ∘ SX.S) ++ [V.str (SX.S zv)] = (ls.take m ++ [zv]).map (V.str ∘ SX.S) from by rw [List.map_append]; rfl]
    have G2a := LA.new (xs := ((ls.take m ++ [zv]).map (V.str ∘ SX.S))) P hs2
    have BX := But.of (a := a) (same_new (H := G) (o := .lst ((ls.take m ++ [zv]).map (V.str ∘ SX.S))) hs2)
    replace P := P.new (o := .lst ((ls.take m ++ [zv]).map (V.str ∘ SX.S))) hs2
    replace FL := FL.but BX
    replace FW := FW.but BX
    replace F8 := F8.but BX
    replace G1a := G1a.but BX
    replace G0a := G0a.but BX
    replace B := B.trans BX
    clear BX
    generalize upd G s2 (.lst ((ls.take m ++ [zv]).map (V.str ∘ SX.S))) = G1 at FL FW F8 G1a G0a G2a P B ⊢
    clear hs2
    clear G
    obtain ⟨G, hG⟩ : ∃ G, G = G1 := ⟨_, rfl⟩
    subst hG
    refine ⟨_, rfl, _, rfl, _, _, rfl, rfl, _, rfl, pL, _, rfl, .of FL.1, fun s3 hs3 => ?_⟩
    rw [show cutV (ls.map (V.str ∘ SX.S)) (some ((m : Int) + 1)) none = (ls.map (V.str ∘ SX.S)).drop (m + 1) from cut_tail' (i := m + 1) (by omega), ← List.map_drop]
    have G3a := LA.new (xs := ((ls.drop (m + 1)).map (V.str ∘ SX.S))) P hs3
    have BX := But.of (a := a) (same_new (H := G) (o := .lst ((ls.drop (m + 1)).map (V.str ∘ SX.S))) hs3)
    replace P := P.new (o := .lst ((ls.drop (m + 1)).map (V.str ∘ SX.S))) hs3
    replace FL := FL.but BX
    replace FW := FW.but BX
    replace F8 := F8.but BX
    replace G1a := G1a.but BX
    replace G0a := G0a.but BX
    replace G2a := G2a.but BX
    replace B := B.trans BX
    clear BX
    generalize upd G s3 (.lst ((ls.drop (m + 1)).map (V.str ∘ SX.S))) = G1 at FL FW F8 G1a G0a G2a G3a P B ⊢
    clear hs3
    clear G
    obtain ⟨G, hG⟩ : ∃ G, G = G1 := ⟨_, rfl⟩
    subst hG
    refine ⟨s2, s3, _, _, rfl, rfl, G2a.1, G3a.1, ?_, fun s4 hs4 => ?_⟩
    · rw [List.length_map, List.length_map, List.length_append, List.length_take, List.length_drop, sizeLine_eq, List.length_singleton]; omega
    rw [← List.map_append]
    have G4a := LA.new (xs := ((ls.take m ++ [zv] ++ ls.drop (m + 1)).map (V.str ∘ SX.S))) P hs4
    have BX := But.of (a := a) (same_new (H := G) (o := .lst ((ls.take m ++ [zv] ++ ls.drop (m + 1)).map (V.str ∘ SX.S))) hs4)
    replace P := P.new (o := .lst ((ls.take m ++ [zv] ++ ls.drop (m + 1)).map (V.str ∘ SX.S))) hs4
    replace FL := FL.but BX
    replace FW := FW.but BX
    replace F8 := F8.but BX
    replace G1a := G1a.but BX
    replace G0a := G0a.but BX
    replace G2a := G2a.but BX
    replace G3a := G3a.but BX
    replace B := B.trans BX
    clear BX
    generalize upd G s4 (.lst ((ls.take m ++ [zv] ++ ls.drop (m + 1)).map (V.str ∘ SX.S))) = G1 at FL FW F8 G1a G0a G2a G3a G4a P B ⊢
    clear hs4
    clear G
    obtain ⟨G, hG⟩ : ∃ G, G = G1 := ⟨_, rfl⟩
    subst hG
    have outW : W (ls.take m ++ [zv] ++ ls.drop (m + 1)) ≤ 4 * n + 100 := by
      rw [W_app, W_app]
      have := W_at hzm
      have u : W [zv] = zv.length + 1 := rfl
      simp only [List.length_nil] at lW
      omega
    have G4b := G4a.1
    rw [map_VS] at G4b
    refine ⟨_, s4, _, rfl, rfl, .inl (.of G4b), ?_, ?_⟩
    · rw [nl_S]; exact join_W (by omega)
    rw [nl_S, join_txt]
    exact q _ x y _ B P (join_txtOk (((lC.take m).app (AllC.one kv.2)).app (lC.drop (m + 1))) (by decide) outW)

theorem ok_law {f : Addr} {oc kV dc pm cdv ct : Value} {od an : Option Addr} {osl : Array (Option Value)} (lk : K.lookup f = some ⟨oc, od, .func (PySem.W.fnOf "law" "law" (defArgs s_law) (defBody s_law) (defScope s_law) .none kV dc pm an cdv ct), osl⟩) (hcd : PySem.W.codeIn K cdv "law" = true) (T : Txt K w mg) (C__law_take : Cal P w K mg base "_law_take" 1 ["_law_pool_here", "_law_many"] (sp__law_take K)) (C__law_pool : Cal P w K mg base "_law_pool" 1 ["_law_script", "_law_k"] (sp__law_pool K)) (C__law_row : Cal P w K mg base "_law_row" 4 ["_law_pool_here"] (sp__law_row K)) (C__law_text : Cal P w K mg base "_law_text" 3 ["_law_rows"] (sp__law_text K)) (C__law_due : Cal P w K mg base "_law_due" 6 ["_law_lines"] (sp__law_due K)) (C__law_told : Cal P w K mg base "_law_told" 8 ["_law_lines"] (sp__law_told K)) (C__law_bent : Cal P w K mg base "_law_bent" 2 ["_law_pool_here", "_law_here"] (sp__law_bent K)) {s : Shared} {H : Hp} {a : Addr} {ns : List Int} (e0 : Env0 P w K mg base callerA [] s H) (hS : SqL K H a (ns.map V.int)) (hlen : ns.length ≤ 63) (sy : SysAt K H) :
    codeAny (model P w) callerA (.call (.ref f) ⟨[.ref a], []⟩) (CR CX0 [] P w H s (fun v _ => v = .bl true) fun _ _ _ => False) s := by
  have hr : Room 8 (callerA.deeper (envOfC "law" (defScope s_law) s.heap.objs.size f cdv)) := Room.deeper (k := 8) ⟨rfl, by decide, by decide⟩ _
  have gd : (callerA.deeper (envOfC "law" (defScope s_law) s.heap.objs.size f cdv)).guards = some [] := caller_guards
  generalize hQ : (fun (v : V) (_ : Hp) => v = V.bl true) = Q
  have q : ∀ H', Q (.bl true) H' := fun _ => by rw [← hQ]
  refine body_at (N := ["_law_script", "_law_many", "_law_k", "_law_pool_here", "_law_turn", "_law_here", "_law_one", "_law_some", "_law_thing"]) (ps := ["_law_script"]) (vs := [.ref a]) (us := [.ref a]) lk hcd sc_law rfl (k := 8) ⟨rfl, by decide, by decide⟩ e0 (.of_eq rfl) (.cons rfl .nil) ?_
  refine ⟨_, PSs.nox (pss_cons (ps_for PassesOwn.never rfl (pi_list (pe_lst (pa_cons pe_int (pa_cons pe_int pa_nil)))) (pg_name (i := 1) sc_law.nd rfl (.inl rfl)) (pss_one (ps_if (pt_cmpR (r := rNeD K) (op_neD hr.units) (pe_cal C__law_told (hr.mono (by decide)) (pa_cons (pe_join pe_str (pe_op op_rep (pe_lst (pa_cons pe_str pa_nil)) (pv 1))) pa_nil)) (pe_cal C__law_due (hr.mono (by decide)) (pa_cons (pe_join pe_str (pe_op op_rep (pe_lst (pa_cons pe_str pa_nil)) (pv 1))) pa_nil)) (nomark _)) (pss_one (ps_ret pe_bl)) pss_nil)))
      (pss_cons (ps_for PassesOwn.never rfl (pi_range1 (by rfl) T.z_range (pa_cons (pe_callB (call_max2 rfl) (by rfl) T.z_max (by decide +kernel) (pa_cons pe_int (pa_cons (pe_callB (call_min2 rfl) (by rfl) T.z_min (by decide +kernel) (pa_cons (pe_callB call_len_seq (by rfl) T.z_len (by decide +kernel) (pa_cons (pv 0) pa_nil)) (pa_cons pe_int pa_nil))) pa_nil))) pa_nil)) (pg_name (i := 2) sc_law.nd rfl (.inl rfl)) (pss_cons (ps_set (i := 3) sc_law.nd rfl (.inr rfl) (pe_cal C__law_pool (hr.mono (by decide)) (pa_cons (pv 0) (pa_cons (pv 2) pa_nil))))
      (pss_cons (ps_set (i := 5) sc_law.nd rfl (.inl rfl) (pe_cal C__law_text (hr.mono (by decide)) (pa_cons (pe_lc (own := [("_law_turn", 4)]) rfl sc_law.nd (pi_range1 (by rfl) T.z_range (pa_cons (pe_op op_add pe_int (pe_cal C__law_take (hr.mono (by decide)) (pa_cons (pv 3) (pa_cons pe_int pa_nil)))) pa_nil)) (blkOk_by (own := [("_law_turn", 4)]) (N := ["_law_script", "_law_many", "_law_k", "_law_pool_here", "_law_turn", "_law_here", "_law_one", "_law_some", "_law_thing"]) (sc := defScope s_law) (by decide +kernel)) (fun _ _ _ _ _ => (pg_name (i := 4) sc_law.nd rfl (.inl rfl))) (fun _ _ _ _ _ => pts_nil) (fun _ _ _ _ _ => (pe_cal C__law_row (hr.mono (by decide)) (pa_cons (pv 3) pa_nil)))) pa_nil)))
      (pss_cons (ps_set (i := 6) sc_law.nd rfl (.inl rfl) (pe_cal C__law_bent (hr.mono (by decide)) (pa_cons (pv 3) (pa_cons (pv 5) pa_nil))))
      (pss_cons (ps_set (i := 7) sc_law.nd rfl (.inl rfl) (pe_lst (pa_cons (pv 5) (pa_cons (pv 6) (pa_cons (pe_cal C__law_bent (hr.mono (by decide)) (pa_cons (pv 3) (pa_cons (pv 6) pa_nil))) (pa_cons (pe_op op_add_str (pv 5) pe_str) (pa_cons pe_str (pa_cons (pe_op op_add_str pe_str (pv 5)) (pa_cons pe_str pa_nil)))))))))
      (pss_cons (ps_set (i := 7) sc_law.nd rfl (.inl rfl) (pe_op op_cat (pv 7) (pe_lst (pa_cons pe_str (pa_cons pe_str (pa_cons pe_str pa_nil))))))
      (pss_cons (ps_expr (pe_bm PySem.F.plainAttrs_list PySem.F.slot_list_append PySem.F.type_list_append mt_append (pv 7) (pa_cons (pe_op op_add_str pe_str (pe_op op_mulS pe_str pe_int)) pa_nil)))
      (pss_one (ps_for PassesOwn.never rfl (pi_list (pe_op op_cat (pv 7) (pe_lst (pa_cons pe_non (pa_cons pe_int (pa_cons (pe_lst (pa_cons (pv 5) pa_nil)) (pa_cons pe_bl (pa_cons pe_dnewK (pa_cons (pe_tup (pa_cons pe_str pa_nil)) pa_nil))))))))) (pg_name (i := 8) sc_law.nd rfl (.inl rfl)) (pss_one (ps_if (pt_cmpR op_ne (pe_callB (call_reprX gd hr.units) (by rfl) T.z_repr (by decide +kernel) (pa_cons (pe_cal C__law_told (hr.mono (by decide)) (pa_cons (pv 8) pa_nil)) pa_nil)) (pe_callB (call_reprX gd hr.units) (by rfl) T.z_repr (by decide +kernel) (pa_cons (pe_cal C__law_due (hr.mono (by decide)) (pa_cons (pv 8) pa_nil)) pa_nil)) (nomark _)) (pss_one (ps_ret pe_bl)) pss_nil)))))))))))
      (pss_one (ps_ret pe_bl)))), ?_⟩
  refine ⟨sz (by simp), fun L0 hL0 => ?_⟩
  have s0 := same_new (o := .lst [V.int 64, .int 65]) hL0
  have e0 : (upd H L0 (.lst [V.int 64, .int 65])) L0 = some (.lst [V.int 64, .int 65]) := upd_same
  generalize upd H L0 _ = H0 at s0 e0 ⊢
  refine ⟨L0, rfl, ⟨_, .of e0⟩, for_list (K := K) (a := L0) (xs := [V.int 64, .int 65]) (fun j σ H' => ∃ v1, σ = [some (.ref a), v1, none, none, none, none, none, none, none] ∧ Same H0 H') ⟨_, rfl, Same.refl _⟩ (fun j σ H' _ ⟨_, _, sm⟩ => .of (sm _ _ e0)) ?_ ?_⟩
  · rintro j xx σ H1 hx ⟨w1, rfl, S1⟩
    obtain ⟨m, rfl, hm⟩ : ∃ m : Nat, xx = .int (m : Int) ∧ m ≤ 65 := by
      have := List.mem_of_getElem? hx
      simp only [List.mem_cons, List.not_mem_nil, or_false] at this
      rcases this with z | z
      · exact ⟨64, z, by decide⟩
      · exact ⟨65, z, by decide⟩
    obtain ⟨rw, rc⟩ := rep_txt hm
    have jt : TxtOk 325 (TL.joinL [10] (List.replicate m bk)) := join_txtOk rc (by decide) rw
    have tt : TT (.str (SX.S (TL.joinL [10] (List.replicate m bk)))) := fun s e => by cases e; exact jt.mono (by decide)
    refine ⟨⟨_, rfl⟩, sz (by simp), fun La hLa => ⟨_, rfl, La, (m : Int), _, rfl, rfl, upd_same, by omega, by omega, sz (by rw [List.length_singleton, Int.toNat_natCast]; omega), fun Lb hLb => ?_⟩⟩
    rw [Int.toNat_natCast, rep_flat]
    have sa := (S1.trans (same_new (o := .lst [V.str (Str.ofString "back")]) hLa)).trans (same_new (o := .lst (((List.replicate m bk).map SX.S).map V.str)) hLb)
    have eb : (upd (upd H1 La (.lst [V.str (Str.ofString "back")])) Lb (.lst (((List.replicate m bk).map SX.S).map V.str))) Lb = some (.lst (((List.replicate m bk).map SX.S).map V.str)) := upd_same
    generalize upd (upd H1 La _) Lb _ = G at sa eb ⊢
    refine ⟨_, Lb, _, rfl, rfl, .inl (.of eb), ?_, ?_⟩
    · rw [nl_S]; exact join_W (by omega)
    rw [show Txt.join (Str.ofString "\n") ((List.replicate m bk).map SX.S) = SX.S (TL.joinL [10] (List.replicate m bk)) from by rw [nl_S]; exact join_txt _ _]
    refine ⟨_, .str (SX.S (TL.joinL [10] (List.replicate m bk))), rfl, .str _, tt, fun v1 G2 s2 d1 => ?_⟩
    refine ⟨⟨_, rfl⟩, sz (by simp), fun Lc hLc => ⟨_, rfl, Lc, (m : Int), _, rfl, rfl, upd_same, by omega, by omega, sz (by rw [List.length_singleton, Int.toNat_natCast]; omega), fun Ld hLd => ?_⟩⟩
    rw [Int.toNat_natCast, rep_flat]
    have sb := (same_new (o := .lst [V.str (Str.ofString "back")]) hLc).trans (same_new (o := .lst (((List.replicate m bk).map SX.S).map V.str)) hLd)
    have ed : (upd (upd G2 Lc (.lst [V.str (Str.ofString "back")])) Ld (.lst (((List.replicate m bk).map SX.S).map V.str))) Ld = some (.lst (((List.replicate m bk).map SX.S).map V.str)) := upd_same
    generalize upd (upd G2 Lc _) Ld _ = G3 at sb ed ⊢
    refine ⟨_, Ld, _, rfl, rfl, .inl (.of ed), ?_, ?_⟩
    · rw [nl_S]; exact join_W (by omega)
    rw [show Txt.join (Str.ofString "\n") ((List.replicate m bk).map SX.S) = SX.S (TL.joinL [10] (List.replicate m bk)) from by rw [nl_S]; exact join_txt _ _]
    refine ⟨_, .str (SX.S (TL.joinL [10] (List.replicate m bk))), rfl, .str _, tt, fun v2 G4 s4 d2 => ?_⟩
    have ak := ans_ok tt
    refine ⟨_, _, ((d1.same sb).same s4).dp ak.1.nd, d2.dp ak.1.nd, ak.1.shaped (by decide), ak.1.shaped (by decide), _, rfl, ifbF (by rw [ans_refl tt]; rfl) ?_⟩
    exact ⟨_, rfl, ((sa.trans s2).trans sb).trans s4⟩
  rintro σ H1 ⟨v1, rfl, sm1⟩
  have sH1 : Same H H1 := s0.trans sm1
  clear e0 s0 sm1 hL0
  clear H0
  refine ⟨_, rfl, a, _, rfl, .inl (sH1.seq hS), _, _, rfl, _, _, rfl, _, rfl, rep_lo (c := 15) (by decide) (by decide), rep_hi (c := 15) (by decide) (by decide), for_range (fun i σ H' => ∃ v2 v3 v4 v5 v6 v7 v8, σ = [some (.ref a), v1, v2, v3, v4, v5, v6, v7, v8] ∧ Same H H') ⟨_, _, _, _, _, _, _, rfl, sH1⟩ ?_ ?_⟩
  case refine_2 =>
    rintro σ H3 ⟨v2, v3, v4, v5, v6, v7, v8, rfl, s3⟩
    exact q _
  rintro i σ H3 hi ⟨v2, v3, v4, v5, v6, v7, v8, rfl, s3⟩
  have hi63 := rep_i (c := 15) (by decide) (by decide) hi
  rw [i0]
  refine ⟨_, rfl, _, rfl, a, ns, i, rfl, s3.seq hS, hlen, hi63, fun x y p G sm4 hp0 P => ?_⟩
  have SG := s3.trans sm4
  have hp1 : H p = none := free_back s3 hp0
  clear sm4 s3 hp0 sH1
  clear H3
  
  refine ⟨_, rfl, p, x, y, _, rfl, P, by decide, by decide, fun r1 x1 y1 r10 r11 P1 => ?_⟩
  refine ⟨_, _, rfl, rfl, _, rfl, by omega, by omega, fun D1 hD1 => ?_⟩
  have BU : But p G (upd G p (.lst [.int x1, .int y1])) := (But.refl p G).upd
  replace SG := sameU' (o := .lst [.int x1, .int y1]) SG hp1
  
  clear P
  generalize upd G p (.lst [.int x1, .int y1]) = G1 at BU P1 SG hD1 ⊢
  clear BU
  clear G
  obtain ⟨G, hG⟩ : ∃ G, G = G1 := ⟨_, rfl⟩
  subst hG
  have nD1 : D1 ≠ p := (ne_of_none P1.1 hD1).symm
  have gD1 : (upd G D1 (.lst [])) D1 = some (.lst []) := upd_same
  have gP1 : (upd G D1 (.lst [])) p = some (.lst [.int x1, .int y1]) := by rw [upd_ne nD1.symm]; exact P1.1
  refine lc_range (lo := 0) (n := (1 + r1).toNat) (fun j H' => ∃ vs ds x2 y2, But p G H' ∧ Pool H' p x2 y2 ∧ H' D1 = some (.lst vs) ∧ vs.length = j ∧ DxAll (news (upd G D1 (.lst [])) H') vs ds ∧ ∀ d ∈ ds, rowD d = true)
    ⟨[], [], x1, y1, But.of (same_new hD1), P1.new hD1, upd_same, rfl, .nil, fun _ h => nomatch h⟩ ?_ ?_
  · rintro j H5 hj ⟨vs, ds, x2, y2, b1, Q1, hl1, len1, dx1, nc1⟩
    refine ⟨rfl, ?_⟩
    refine ⟨_, rfl, p, x2, y2, rfl, Q1, fun v d x4 y4 HC bC PC dC okC ncC => ?_⟩
    have lC := bC _ _ nD1 hl1
    refine ⟨_, lC, by rw [len1]; exact szn (by omega), vs ++ [v], ds ++ [d], x4, y4, (b1.trans bC).put hD1, ⟨by rw [upd_ne nD1.symm]; exact PC.1, PC.2⟩, upd_same, by rw [List.length_append, len1]; rfl, ?_, ?_⟩
    · have dom : ∀ b, H5 b = none → (upd G D1 (.lst [])) b = none := fun b n => by
        have nb : b ≠ D1 := fun z => by rw [z, hl1] at n; cases n
        rw [upd_ne nb]
        exact b1.fre Q1.1 n
      exact ((dx1.same (news_but gP1 bC)).snoc (dC.same (news_mono dom))).same (news_upd gD1)
    · intro z hz
      rcases List.mem_append.mp hz with h | h
      · exact nc1 z h
      · rw [List.mem_singleton.mp h]; exact okC
  rintro H5 ⟨vs1, ds1, x, y, B, P, hl1, len1, dx1, ok1⟩
  have A1 : RowsAt p H5 D1 ds1 := ⟨⟨vs1, hl1, dx1.same (news_hideG gP1)⟩, nD1⟩
  have el1 := dx1.length
  replace SG := sameB' SG B hp1
  
  clear dx1 gD1 gP1 B P1 hD1 nD1
  clear G
  obtain ⟨G, hG⟩ : ∃ G, G = H5 := ⟨_, rfl⟩
  subst hG
  have l1 : 1 ≤ ds1.length ∧ ds1.length ≤ 8 := by omega
  clear len1 el1 r10 r11
  
  have tk := text_ok ok1 (n := 448) (by omega)
  have ne1 : ds1 ≠ [] := fun e => by rw [e] at l1; simp at l1
  refine ⟨.ref D1, ds1, rfl, A1.dx, ok1, by omega, fun G2 s2 => ?_⟩
  clear hl1 A1
  replace P := P.same s2
  replace SG := SG.trans s2
  clear s2
  clear G
  obtain ⟨G, hG⟩ : ∃ G, G = G2 := ⟨_, rfl⟩
  subst hG
  
  generalize textL ds1 = z0 at tk ⊢
  refine ⟨_, rfl, _, rfl, p, x, y, z0, 448, rfl, P, tk, by decide, fun z1 x1 y1 G2 B2 P1 k1 => ?_⟩
  replace SG := sameB' SG B2 hp1
  clear B2 P
  clear G
  refine ⟨_, rfl, _, rfl, _, rfl, _, rfl, p, x1, y1, z1, 4 * 448 + 100, rfl, P1, k1, by decide, fun z2 x2 y2 G3 B3 P2 k2 => ?_⟩
  replace SG := sameB' SG B3 hp1
  clear B3 P1
  clear G2
  have tkl := tk.1
  have tkC := tk.2
  have l1' : ∀ z : List Nat, (SX.S z).length = z.length := SX.S_len
  have lnl : (Str.ofString "\n").length = 1 := by rw [nl_S]; rfl
  refine ⟨_, rfl, _, _, rfl, rfl, by rw [sizeLine_eq, lnl, l1']; omega, ?_⟩
  rw [show SX.S z0 ++ Str.ofString "\n" = SX.S (z0 ++ [10]) from by rw [nl_S, SX.S_cat]]
  refine ⟨_, rfl, _, _, rfl, rfl, by rw [sizeLine_eq, lnl, l1']; omega, ?_⟩
  rw [show Str.ofString "\n" ++ SX.S z0 = SX.S ([10] ++ z0) from by rw [nl_S, SX.S_cat]]
  refine ⟨sz (by simp), fun S1 hS1 => ?_⟩
  have k3 : TxtOk 500 (z0 ++ [10]) := ⟨by rw [List.length_append, List.length_singleton]; omega, fun c hc => by
    rcases List.mem_append.mp hc with h | h
    · exact tkC c h
    · rw [List.mem_singleton.mp h]; decide⟩
  have k4 : TxtOk 500 ([10] ++ z0) := ⟨by rw [List.length_append, List.length_singleton]; omega, fun c hc => by
    rcases List.mem_append.mp hc with h | h
    · rw [List.mem_singleton.mp h]; decide
    · exact tkC c h⟩
  have W1 : ∀ G, Wt G [V.str (SX.S z0), .str (SX.S z1), .str (SX.S z2), .str (SX.S (z0 ++ [10])), .str (Str.ofString ""), .str (SX.S ([10] ++ z0)), .str (Str.ofString "set 0 0065535")] := fun G => Wt.txt tk (by decide) (Wt.txt k1 (by decide) (Wt.txt k2 (by decide) (Wt.txt k3 (by decide) (Wt.lit (by decide +kernel) (Wt.txt k4 (by decide) (Wt.lit (by decide +kernel) Wt.nil))))))
  have s1 := same_new (o := .lst [V.str (SX.S z0), .str (SX.S z1), .str (SX.S z2), .str (SX.S (z0 ++ [10])), .str (Str.ofString ""), .str (SX.S ([10] ++ z0)), .str (Str.ofString "set 0 0065535")]) hS1
  have e1 : (upd G3 S1 (.lst [V.str (SX.S z0), .str (SX.S z1), .str (SX.S z2), .str (SX.S (z0 ++ [10])), .str (Str.ofString ""), .str (SX.S ([10] ++ z0)), .str (Str.ofString "set 0 0065535")])) S1 = some (.lst [V.str (SX.S z0), .str (SX.S z1), .str (SX.S z2), .str (SX.S (z0 ++ [10])), .str (Str.ofString ""), .str (SX.S ([10] ++ z0)), .str (Str.ofString "set 0 0065535")]) := upd_same
  replace SG := SG.trans s1
  generalize upd G3 S1 _ = G4 at SG e1 ⊢
  clear s1 hS1 P2
  refine ⟨_, rfl, sz (by simp), fun S2 hS2 => ?_⟩
  have W2 : ∀ G, Wt G [V.str (Str.ofString "set 0 1234567"), .str (Str.ofString "set 0 +1"), .str (Str.ofString "set 0 1_0")] := fun G => Wt.lit (by decide +kernel) (Wt.lit (by decide +kernel) (Wt.lit (by decide +kernel) Wt.nil))
  have s2 := same_new (o := .lst [V.str (Str.ofString "set 0 1234567"), .str (Str.ofString "set 0 +1"), .str (Str.ofString "set 0 1_0")]) hS2
  have e2 : (upd G4 S2 (.lst [V.str (Str.ofString "set 0 1234567"), .str (Str.ofString "set 0 +1"), .str (Str.ofString "set 0 1_0")])) S2 = some (.lst [V.str (Str.ofString "set 0 1234567"), .str (Str.ofString "set 0 +1"), .str (Str.ofString "set 0 1_0")]) := upd_same
  replace SG := SG.trans s2
  replace e1 := s2 _ _ e1
  generalize upd G4 S2 _ = G5 at SG e1 e2 ⊢
  have lx1 : ([V.str (SX.S z0), .str (SX.S z1), .str (SX.S z2), .str (SX.S (z0 ++ [10])), .str (Str.ofString ""), .str (SX.S ([10] ++ z0)), .str (Str.ofString "set 0 0065535")] : List V).length = 7 := rfl
  generalize [V.str (SX.S z0), .str (SX.S z1), .str (SX.S z2), .str (SX.S (z0 ++ [10])), .str (Str.ofString ""), .str (SX.S ([10] ++ z0)), .str (Str.ofString "set 0 0065535")] = xs1 at W1 e1 lx1 ⊢
  have W3 : ∀ G, Wt G (xs1 ++ [V.str (Str.ofString "set 0 1234567"), .str (Str.ofString "set 0 +1"), .str (Str.ofString "set 0 1_0")]) := fun G => (W1 G).app (W2 G)
  refine ⟨S1, S2, xs1, _, rfl, rfl, e1, e2, by rw [lx1]; exact sz (by decide), fun S3 hS3 => ?_⟩
  have lx3 : (xs1 ++ [V.str (Str.ofString "set 0 1234567"), .str (Str.ofString "set 0 +1"), .str (Str.ofString "set 0 1_0")]).length = 10 := by rw [List.length_append, lx1]; rfl
  generalize xs1 ++ [V.str (Str.ofString "set 0 1234567"), .str (Str.ofString "set 0 +1"), .str (Str.ofString "set 0 1_0")] = xs3 at W3 lx3 ⊢
  have hS3H : H S3 = none := free_back SG hS3
  have s3 := same_new (o := .lst xs3) hS3
  have e3 : (upd G5 S3 (.lst xs3)) S3 = some (.lst xs3) := upd_same
  replace SG := SG.trans s3
  generalize upd G5 S3 _ = G6 at SG e3 ⊢
  clear s3 hS3 e1 e2 W1 W2
  refine ⟨_, rfl, .inl ⟨rfl, _, .of e3⟩, [49], 61, congrArg V.str (by decide +kernel), rfl, by decide, by decide, by decide, _, _, rfl, rfl, ?_, ?_⟩
  · rw [SX.S_len, sizeLine_eq]; decide +kernel
  have k5 : TxtOk 100 ([115, 101, 116, 32, 48, 32] ++ (List.replicate (61 : Int).toNat [49]).flatten) := ⟨by decide +kernel, by decide +kernel⟩
  rw [show Str.ofString "set 0 " ++ SX.S (List.replicate (61 : Int).toNat [49]).flatten = SX.S ([115, 101, 116, 32, 48, 32] ++ (List.replicate (61 : Int).toNat [49]).flatten) from by rw [show Str.ofString "set 0 " = SX.S [115, 101, 116, 32, 48, 32] from by decide +kernel, SX.S_cat]]
  generalize [115, 101, 116, 32, 48, 32] ++ (List.replicate (61 : Int).toNat [49]).flatten = z5 at k5 ⊢
  refine ⟨S3, xs3, _, rfl, rfl, e3, by rw [lx3, sizeLine_eq]; decide, ?_⟩
  have W4 : ∀ G, Wt G (xs3 ++ [V.str (SX.S z5)]) := fun G => (W3 G).app (Wt.txt k5 (by decide) Wt.nil)
  have lx4 : (xs3 ++ [V.str (SX.S z5)]).length = 11 := by rw [List.length_append, lx3]; rfl
  have e4 : (upd G6 S3 (.lst (xs3 ++ [V.str (SX.S z5)]))) S3 = some (.lst (xs3 ++ [V.str (SX.S z5)])) := upd_same
  generalize xs3 ++ [V.str (SX.S z5)] = xs4 at W4 lx4 e4 ⊢
  replace SG := sameU' (o := .lst xs4) SG hS3H
  generalize upd G6 S3 _ = G7 at SG e4 ⊢
  clear e3 W3
  refine ⟨_, rfl, _, rfl, sz (by simp), fun q1 hq1 => ?_⟩
  have s1 := same_new (o := .lst [V.str (SX.S z0)]) hq1
  have f1 : (upd G7 q1 (.lst [V.str (SX.S z0)])) q1 = some (.lst [V.str (SX.S z0)]) := upd_same
  replace e4 := s1 _ _ e4
  replace SG := SG.trans s1
  generalize upd G7 q1 _ = G8 at SG e4 f1 ⊢
  refine fun q2 hq2 => ?_
  have s2 := same_new (o := .dK []) hq2
  have f2 : (upd G8 q2 (.dK [])) q2 = some (.dK []) := upd_same
  replace e4 := s2 _ _ e4
  replace f1 := s2 _ _ f1
  replace SG := SG.trans s2
  generalize upd G8 q2 _ = G9 at SG e4 f1 f2 ⊢
  refine ⟨sz (by simp), fun q3 hq3 => ?_⟩
  have s3 := same_new (o := .tup [V.str (Str.ofString "back")]) hq3
  have f3 : (upd G9 q3 (.tup [V.str (Str.ofString "back")])) q3 = some (.tup [V.str (Str.ofString "back")]) := upd_same
  replace e4 := s3 _ _ e4
  replace f1 := s3 _ _ f1
  replace f2 := s3 _ _ f2
  replace SG := SG.trans s3
  generalize upd G9 q3 _ = G10 at SG e4 f1 f2 f3 ⊢
  refine ⟨sz (by simp), fun q4 hq4 => ?_⟩
  have s4 := same_new (o := .lst [V.non, .int 5, .ref q1, .bl true, .ref q2, .ref q3]) hq4
  have f4 : (upd G10 q4 (.lst [V.non, .int 5, .ref q1, .bl true, .ref q2, .ref q3])) q4 = some (.lst [V.non, .int 5, .ref q1, .bl true, .ref q2, .ref q3]) := upd_same
  replace e4 := s4 _ _ e4
  replace f1 := s4 _ _ f1
  replace f2 := s4 _ _ f2
  replace f3 := s4 _ _ f3
  replace SG := SG.trans s4
  generalize upd G10 q4 _ = G11 at SG e4 f1 f2 f3 f4 ⊢
  refine ⟨S3, q4, xs4, _, rfl, rfl, e4, f4, by rw [lx4]; exact sz (show 11 + 6 ≤ 1000 by decide), fun q5 hq5 => ?_⟩
  have W5 : Wt G11 (xs4 ++ [V.non, .int 5, .ref q1, .bl true, .ref q2, .ref q3]) := (W4 G11).app (Wt.cons .non (TT.of rfl) (Wt.cons (.int 5) (TT.of rfl) (Wt.cons (.lst f1 (.cons (.str _) .nil)) (TT.of rfl) (Wt.cons (.bl true) (TT.of rfl) (Wt.cons (.dk f2) (TT.of rfl) (Wt.cons (.tup f3 (.cons (.str _) .nil)) (TT.of rfl) Wt.nil))))))
  generalize xs4 ++ [V.non, .int 5, .ref q1, .bl true, .ref q2, .ref q3] = xs5 at W5 ⊢
  have s5 := same_new (o := .lst xs5) hq5
  have e5 : (upd G11 q5 (.lst xs5)) q5 = some (.lst xs5) := upd_same
  replace SG := SG.trans s5
  replace W5 := W5.same s5
  generalize upd G11 q5 _ = G at SG e5 W5 ⊢
  refine ⟨q5, rfl, ⟨_, .of e5⟩, for_list (K := K) (a := q5) (xs := xs5) (fun j σ H' => ∃ v8, σ = [some (.ref a), v1, some (.int (i : Int)), some (.ref p), v4, some (.str (SX.S z0)), some (.str (SX.S z1)), some (.ref S3), v8] ∧ Same G H') ⟨_, rfl, Same.refl _⟩ (fun j σ H' _ ⟨_, _, sm⟩ => .of (sm _ _ e5)) ?_ ?_⟩
  · rintro j xx σ G1 hx ⟨w8, rfl, sm⟩
    obtain ⟨d, dx, tt⟩ := W5 xx (List.mem_of_getElem? hx)
    have ak := ans_ok tt
    have fit : Fit 20000 50 (ansD d) := ak.1.ft.mono (by decide) (by decide)
    have Y : SysAt K G1 := sy.same (SG.trans sm)
    refine ⟨_, rfl, _, d, rfl, dx.same sm, tt, fun u1 G2 s2 d1 => ?_⟩
    refine ⟨_, _, _, rfl, ⟨G2, Same.refl _, d1⟩, Y.same s2, fit, by decide, ?_⟩
    refine ⟨_, rfl, _, d, rfl, (dx.same sm).same s2, tt, fun u2 G3 s3 d2 => ?_⟩
    refine ⟨_, _, _, rfl, ⟨G3, Same.refl _, d2⟩, (Y.same s2).same s3, fit, by decide, ?_⟩
    refine ⟨rfl, _, rfl, ifnd (fun c => absurd rfl c) (fun _ => ?_)⟩
    exact ⟨_, rfl, (sm.trans s2).trans s3⟩
  rintro σ G1 ⟨w8, rfl, sm⟩
  exact ⟨_, _, _, _, _, _, _, rfl, SG.trans sm⟩
end
theorem all_mk {l : PySem.W.OpenLaw} {w : World} {K : PySem.W.Frag} {h : Heap} {mg : Str → Option Value} {fa f0 f1 f2 f3 f4 f5 f6 f7 f8 f9 f10 f11 f12 f13 f14 f15 f16 f17 f18 f19 f20 f21 f22 f23 f24 f25 f26 f27 f28 f29 f30 f31 f32 : Addr} (X : K.In h) (G : h.Ns mainGlobals mg) (hfa : mg "law" = some (.ref fa))
    {od0 an0 od1 an1 od2 an2 od3 an3 od4 an4 od5 an5 od6 an6 od7 an7 od8 an8 od9 an9 od10 an10 od11 an11 od12 an12 od13 an13 od14 an14 od15 an15 od16 an16 od17 an17 od18 an18 od19 an19 od20 an20 od21 an21 od22 an22 od23 an23 od24 an24 od25 an25 od26 an26 od27 an27 od28 an28 od29 an29 od30 an30 od31 an31 od32 an32 : Option Addr} {sl0 sl1 sl2 sl3 sl4 sl5 sl6 sl7 sl8 sl9 sl10 sl11 sl12 sl13 sl14 sl15 sl16 sl17 sl18 sl19 sl20 sl21 sl22 sl23 sl24 sl25 sl26 sl27 sl28 sl29 sl30 sl31 sl32 : Array (Option Value)} {oc0 kV0 dc0 pm0 cd0 ct0 oc1 kV1 dc1 pm1 cd1 ct1 oc2 kV2 dc2 pm2 cd2 ct2 oc3 kV3 dc3 pm3 cd3 ct3 oc4 kV4 dc4 pm4 cd4 ct4 oc5 kV5 dc5 pm5 cd5 ct5 oc6 kV6 dc6 pm6 cd6 ct6 oc7 kV7 dc7 pm7 cd7 ct7 oc8 kV8 dc8 pm8 cd8 ct8 oc9 kV9 dc9 pm9 cd9 ct9 oc10 kV10 dc10 pm10 cd10 ct10 oc11 kV11 dc11 pm11 cd11 ct11 oc12 kV12 dc12 pm12 cd12 ct12 oc13 kV13 dc13 pm13 cd13 ct13 oc14 kV14 dc14 pm14 cd14 ct14 oc15 kV15 dc15 pm15 cd15 ct15 oc16 kV16 dc16 pm16 cd16 ct16 oc17 kV17 dc17 pm17 cd17 ct17 oc18 kV18 dc18 pm18 cd18 ct18 oc19 kV19 dc19 pm19 cd19 ct19 oc20 kV20 dc20 pm20 cd20 ct20 oc21 kV21 dc21 pm21 cd21 ct21 oc22 kV22 dc22 pm22 cd22 ct22 oc23 kV23 dc23 pm23 cd23 ct23 oc24 kV24 dc24 pm24 cd24 ct24 oc25 kV25 dc25 pm25 cd25 ct25 oc26 kV26 dc26 pm26 cd26 ct26 oc27 kV27 dc27 pm27 cd27 ct27 oc28 kV28 dc28 pm28 cd28 ct28 oc29 kV29 dc29 pm29 cd29 ct29 oc30 kV30 dc30 pm30 cd30 ct30 oc31 kV31 dc31 pm31 cd31 ct31 oc32 kV32 dc32 pm32 cd32 ct32 : Value}
    (a0 : PySem.W.nsIn K mainGlobals "_law_take" = some (some (.ref f0))) (l0 : K.lookup f0 = some ⟨oc0, od0, .func (PySem.W.fnOf "_law_take" "_law_take" (defArgs s__law_take) (defBody s__law_take) (defScope s__law_take) .none kV0 dc0 pm0 an0 cd0 ct0), sl0⟩) (c0 : PySem.W.codeIn K cd0 "_law_take" = true) (k0 : PySem.W.keepIn K (.ref f0) = true)
    (a1 : PySem.W.nsIn K mainGlobals "_law_pool" = some (some (.ref f1))) (l1 : K.lookup f1 = some ⟨oc1, od1, .func (PySem.W.fnOf "_law_pool" "_law_pool" (defArgs s__law_pool) (defBody s__law_pool) (defScope s__law_pool) .none kV1 dc1 pm1 an1 cd1 ct1), sl1⟩) (c1 : PySem.W.codeIn K cd1 "_law_pool" = true) (k1 : PySem.W.keepIn K (.ref f1) = true)
    (a2 : PySem.W.nsIn K mainGlobals "is_whole" = some (some (.ref f2))) (l2 : K.lookup f2 = some ⟨oc2, od2, .func (PySem.W.fnOf "is_whole" "is_whole" (defArgs s_is_whole) (defBody s_is_whole) (defScope s_is_whole) .none kV2 dc2 pm2 an2 cd2 ct2), sl2⟩) (c2 : PySem.W.codeIn K cd2 "is_whole" = true) (k2 : PySem.W.keepIn K (.ref f2) = true)
    (a3 : PySem.W.nsIn K mainGlobals "is_rights" = some (some (.ref f3))) (l3 : K.lookup f3 = some ⟨oc3, od3, .func (PySem.W.fnOf "is_rights" "is_rights" (defArgs s_is_rights) (defBody s_is_rights) (defScope s_is_rights) .none kV3 dc3 pm3 an3 cd3 ct3), sl3⟩) (c3 : PySem.W.codeIn K cd3 "is_rights" = true) (k3 : PySem.W.keepIn K (.ref f3) = true)
    (a4 : PySem.W.nsIn K mainGlobals "_is_part" = some (some (.ref f4))) (l4 : K.lookup f4 = some ⟨oc4, od4, .func (PySem.W.fnOf "_is_part" "_is_part" (defArgs s__is_part__v0) (defBody s__is_part__v0) (defScope s__is_part__v0) .none kV4 dc4 pm4 an4 cd4 ct4), sl4⟩) (c4 : PySem.W.codeIn K cd4 "_is_part" = true) (k4 : PySem.W.keepIn K (.ref f4) = true)
    (a5 : PySem.W.nsIn K mainGlobals "_is_by" = some (some (.ref f5))) (l5 : K.lookup f5 = some ⟨oc5, od5, .func (PySem.W.fnOf "_is_by" "_is_by" (defArgs s__is_by) (defBody s__is_by) (defScope s__is_by) .none kV5 dc5 pm5 an5 cd5 ct5), sl5⟩) (c5 : PySem.W.codeIn K cd5 "_is_by" = true) (k5 : PySem.W.keepIn K (.ref f5) = true)
    (a6 : PySem.W.nsIn K mainGlobals "_is_part" = some (some (.ref f6))) (l6 : K.lookup f6 = some ⟨oc6, od6, .func (PySem.W.fnOf "_is_part" "_is_part" (defArgs s__is_part) (defBody s__is_part) (defScope s__is_part) .none kV6 dc6 pm6 an6 cd6 ct6), sl6⟩) (c6 : PySem.W.codeIn K cd6 "_is_part" = true) (k6 : PySem.W.keepIn K (.ref f6) = true)
    (a7 : PySem.W.nsIn K mainGlobals "is_row" = some (some (.ref f7))) (l7 : K.lookup f7 = some ⟨oc7, od7, .func (PySem.W.fnOf "is_row" "is_row" (defArgs s_is_row) (defBody s_is_row) (defScope s_is_row) .none kV7 dc7 pm7 an7 cd7 ct7), sl7⟩) (c7 : PySem.W.codeIn K cd7 "is_row" = true) (k7 : PySem.W.keepIn K (.ref f7) = true)
    (a8 : PySem.W.nsIn K mainGlobals "_law_forms" = some (some (.ref f8))) (l8 : K.lookup f8 = some ⟨oc8, od8, .func (PySem.W.fnOf "_law_forms" "_law_forms" (defArgs s__law_forms) (defBody s__law_forms) (defScope s__law_forms) .none kV8 dc8 pm8 an8 cd8 ct8), sl8⟩) (c8 : PySem.W.codeIn K cd8 "_law_forms" = true) (k8 : PySem.W.keepIn K (.ref f8) = true)
    (a9 : PySem.W.nsIn K mainGlobals "_law_lists" = some (some (.ref f9))) (l9 : K.lookup f9 = some ⟨oc9, od9, .func (PySem.W.fnOf "_law_lists" "_law_lists" (defArgs s__law_lists) (defBody s__law_lists) (defScope s__law_lists) .none kV9 dc9 pm9 an9 cd9 ct9), sl9⟩) (c9 : PySem.W.codeIn K cd9 "_law_lists" = true) (k9 : PySem.W.keepIn K (.ref f9) = true)
    (a10 : PySem.W.nsIn K mainGlobals "_law_part" = some (some (.ref f10))) (l10 : K.lookup f10 = some ⟨oc10, od10, .func (PySem.W.fnOf "_law_part" "_law_part" (defArgs s__law_part__v0) (defBody s__law_part__v0) (defScope s__law_part__v0) .none kV10 dc10 pm10 an10 cd10 ct10), sl10⟩) (c10 : PySem.W.codeIn K cd10 "_law_part" = true) (k10 : PySem.W.keepIn K (.ref f10) = true)
    (a11 : PySem.W.nsIn K mainGlobals "_law_part" = some (some (.ref f11))) (l11 : K.lookup f11 = some ⟨oc11, od11, .func (PySem.W.fnOf "_law_part" "_law_part" (defArgs s__law_part) (defBody s__law_part) (defScope s__law_part) .none kV11 dc11 pm11 an11 cd11 ct11), sl11⟩) (c11 : PySem.W.codeIn K cd11 "_law_part" = true) (k11 : PySem.W.keepIn K (.ref f11) = true)
    (a12 : PySem.W.nsIn K mainGlobals "_law_row" = some (some (.ref f12))) (l12 : K.lookup f12 = some ⟨oc12, od12, .func (PySem.W.fnOf "_law_row" "_law_row" (defArgs s__law_row) (defBody s__law_row) (defScope s__law_row) .none kV12 dc12 pm12 an12 cd12 ct12), sl12⟩) (c12 : PySem.W.codeIn K cd12 "_law_row" = true) (k12 : PySem.W.keepIn K (.ref f12) = true)
    (a13 : PySem.W.nsIn K mainGlobals "_law_is_from" = some (some (.ref f13))) (l13 : K.lookup f13 = some ⟨oc13, od13, .func (PySem.W.fnOf "_law_is_from" "_law_is_from" (defArgs s__law_is_from) (defBody s__law_is_from) (defScope s__law_is_from) .none kV13 dc13 pm13 an13 cd13 ct13), sl13⟩) (c13 : PySem.W.codeIn K cd13 "_law_is_from" = true) (k13 : PySem.W.keepIn K (.ref f13) = true)
    (a14 : PySem.W.nsIn K mainGlobals "_law_is_part" = some (some (.ref f14))) (l14 : K.lookup f14 = some ⟨oc14, od14, .func (PySem.W.fnOf "_law_is_part" "_law_is_part" (defArgs s__law_is_part__v0) (defBody s__law_is_part__v0) (defScope s__law_is_part__v0) .none kV14 dc14 pm14 an14 cd14 ct14), sl14⟩) (c14 : PySem.W.codeIn K cd14 "_law_is_part" = true) (k14 : PySem.W.keepIn K (.ref f14) = true)
    (a15 : PySem.W.nsIn K mainGlobals "_law_is_part" = some (some (.ref f15))) (l15 : K.lookup f15 = some ⟨oc15, od15, .func (PySem.W.fnOf "_law_is_part" "_law_is_part" (defArgs s__law_is_part) (defBody s__law_is_part) (defScope s__law_is_part) .none kV15 dc15 pm15 an15 cd15 ct15), sl15⟩) (c15 : PySem.W.codeIn K cd15 "_law_is_part" = true) (k15 : PySem.W.keepIn K (.ref f15) = true)
    (a16 : PySem.W.nsIn K mainGlobals "_law_is_row" = some (some (.ref f16))) (l16 : K.lookup f16 = some ⟨oc16, od16, .func (PySem.W.fnOf "_law_is_row" "_law_is_row" (defArgs s__law_is_row) (defBody s__law_is_row) (defScope s__law_is_row) .none kV16 dc16 pm16 an16 cd16 ct16), sl16⟩) (c16 : PySem.W.codeIn K cd16 "_law_is_row" = true) (k16 : PySem.W.keepIn K (.ref f16) = true)
    (a17 : PySem.W.nsIn K mainGlobals "whole_in" = some (some (.ref f17))) (l17 : K.lookup f17 = some ⟨oc17, od17, .func (PySem.W.fnOf "whole_in" "whole_in" (defArgs s_whole_in) (defBody s_whole_in) (defScope s_whole_in) .none kV17 dc17 pm17 an17 cd17 ct17), sl17⟩) (c17 : PySem.W.codeIn K cd17 "whole_in" = true) (k17 : PySem.W.keepIn K (.ref f17) = true)
    (a18 : PySem.W.nsIn K mainGlobals "_by_in" = some (some (.ref f18))) (l18 : K.lookup f18 = some ⟨oc18, od18, .func (PySem.W.fnOf "_by_in" "_by_in" (defArgs s__by_in) (defBody s__by_in) (defScope s__by_in) .none kV18 dc18 pm18 an18 cd18 ct18), sl18⟩) (c18 : PySem.W.codeIn K cd18 "_by_in" = true) (k18 : PySem.W.keepIn K (.ref f18) = true)
    (a19 : PySem.W.nsIn K mainGlobals "_rights_in" = some (some (.ref f19))) (l19 : K.lookup f19 = some ⟨oc19, od19, .func (PySem.W.fnOf "_rights_in" "_rights_in" (defArgs s__rights_in) (defBody s__rights_in) (defScope s__rights_in) .none kV19 dc19 pm19 an19 cd19 ct19), sl19⟩) (c19 : PySem.W.codeIn K cd19 "_rights_in" = true) (k19 : PySem.W.keepIn K (.ref f19) = true)
    (a20 : PySem.W.nsIn K mainGlobals "_part_in" = some (some (.ref f20))) (l20 : K.lookup f20 = some ⟨oc20, od20, .func (PySem.W.fnOf "_part_in" "_part_in" (defArgs s__part_in) (defBody s__part_in) (defScope s__part_in) .none kV20 dc20 pm20 an20 cd20 ct20), sl20⟩) (c20 : PySem.W.codeIn K cd20 "_part_in" = true) (k20 : PySem.W.keepIn K (.ref f20) = true)
    (a21 : PySem.W.nsIn K mainGlobals "row_in" = some (some (.ref f21))) (l21 : K.lookup f21 = some ⟨oc21, od21, .func (PySem.W.fnOf "row_in" "row_in" (defArgs s_row_in) (defBody s_row_in) (defScope s_row_in) .none kV21 dc21 pm21 an21 cd21 ct21), sl21⟩) (c21 : PySem.W.codeIn K cd21 "row_in" = true) (k21 : PySem.W.keepIn K (.ref f21) = true)
    (a22 : PySem.W.nsIn K mainGlobals "read_rows" = some (some (.ref f22))) (l22 : K.lookup f22 = some ⟨oc22, od22, .func (PySem.W.fnOf "read_rows" "read_rows" (defArgs s_read_rows) (defBody s_read_rows) (defScope s_read_rows) .none kV22 dc22 pm22 an22 cd22 ct22), sl22⟩) (c22 : PySem.W.codeIn K cd22 "read_rows" = true) (k22 : PySem.W.keepIn K (.ref f22) = true)
    (a23 : PySem.W.nsIn K mainGlobals "_law_shown_part" = some (some (.ref f23))) (l23 : K.lookup f23 = some ⟨oc23, od23, .func (PySem.W.fnOf "_law_shown_part" "_law_shown_part" (defArgs s__law_shown_part) (defBody s__law_shown_part) (defScope s__law_shown_part) .none kV23 dc23 pm23 an23 cd23 ct23), sl23⟩) (c23 : PySem.W.codeIn K cd23 "_law_shown_part" = true) (k23 : PySem.W.keepIn K (.ref f23) = true)
    (a24 : PySem.W.nsIn K mainGlobals "_law_line" = some (some (.ref f24))) (l24 : K.lookup f24 = some ⟨oc24, od24, .func (PySem.W.fnOf "_law_line" "_law_line" (defArgs s__law_line) (defBody s__law_line) (defScope s__law_line) .none kV24 dc24 pm24 an24 cd24 ct24), sl24⟩) (c24 : PySem.W.codeIn K cd24 "_law_line" = true) (k24 : PySem.W.keepIn K (.ref f24) = true)
    (a25 : PySem.W.nsIn K mainGlobals "_law_text" = some (some (.ref f25))) (l25 : K.lookup f25 = some ⟨oc25, od25, .func (PySem.W.fnOf "_law_text" "_law_text" (defArgs s__law_text) (defBody s__law_text) (defScope s__law_text) .none kV25 dc25 pm25 an25 cd25 ct25), sl25⟩) (c25 : PySem.W.codeIn K cd25 "_law_text" = true) (k25 : PySem.W.keepIn K (.ref f25) = true)
    (a26 : PySem.W.nsIn K mainGlobals "_law_number_in" = some (some (.ref f26))) (l26 : K.lookup f26 = some ⟨oc26, od26, .func (PySem.W.fnOf "_law_number_in" "_law_number_in" (defArgs s__law_number_in) (defBody s__law_number_in) (defScope s__law_number_in) .none kV26 dc26 pm26 an26 cd26 ct26), sl26⟩) (c26 : PySem.W.codeIn K cd26 "_law_number_in" = true) (k26 : PySem.W.keepIn K (.ref f26) = true)
    (a27 : PySem.W.nsIn K mainGlobals "_law_part_in" = some (some (.ref f27))) (l27 : K.lookup f27 = some ⟨oc27, od27, .func (PySem.W.fnOf "_law_part_in" "_law_part_in" (defArgs s__law_part_in) (defBody s__law_part_in) (defScope s__law_part_in) .none kV27 dc27 pm27 an27 cd27 ct27), sl27⟩) (c27 : PySem.W.codeIn K cd27 "_law_part_in" = true) (k27 : PySem.W.keepIn K (.ref f27) = true)
    (a28 : PySem.W.nsIn K mainGlobals "_law_row_in" = some (some (.ref f28))) (l28 : K.lookup f28 = some ⟨oc28, od28, .func (PySem.W.fnOf "_law_row_in" "_law_row_in" (defArgs s__law_row_in) (defBody s__law_row_in) (defScope s__law_row_in) .none kV28 dc28 pm28 an28 cd28 ct28), sl28⟩) (c28 : PySem.W.codeIn K cd28 "_law_row_in" = true) (k28 : PySem.W.keepIn K (.ref f28) = true)
    (a29 : PySem.W.nsIn K mainGlobals "_law_due" = some (some (.ref f29))) (l29 : K.lookup f29 = some ⟨oc29, od29, .func (PySem.W.fnOf "_law_due" "_law_due" (defArgs s__law_due) (defBody s__law_due) (defScope s__law_due) .none kV29 dc29 pm29 an29 cd29 ct29), sl29⟩) (c29 : PySem.W.codeIn K cd29 "_law_due" = true) (k29 : PySem.W.keepIn K (.ref f29) = true)
    (a30 : PySem.W.nsIn K mainGlobals "_law_told" = some (some (.ref f30))) (l30 : K.lookup f30 = some ⟨oc30, od30, .func (PySem.W.fnOf "_law_told" "_law_told" (defArgs s__law_told) (defBody s__law_told) (defScope s__law_told) .none kV30 dc30 pm30 an30 cd30 ct30), sl30⟩) (c30 : PySem.W.codeIn K cd30 "_law_told" = true) (k30 : PySem.W.keepIn K (.ref f30) = true)
    (a31 : PySem.W.nsIn K mainGlobals "_law_bent" = some (some (.ref f31))) (l31 : K.lookup f31 = some ⟨oc31, od31, .func (PySem.W.fnOf "_law_bent" "_law_bent" (defArgs s__law_bent) (defBody s__law_bent) (defScope s__law_bent) .none kV31 dc31 pm31 an31 cd31 ct31), sl31⟩) (c31 : PySem.W.codeIn K cd31 "_law_bent" = true) (k31 : PySem.W.keepIn K (.ref f31) = true)
    (a32 : PySem.W.nsIn K mainGlobals "law" = some (some (.ref f32))) (l32 : K.lookup f32 = some ⟨oc32, od32, .func (PySem.W.fnOf "law" "law" (defArgs s_law) (defBody s_law) (defScope s_law) .none kV32 dc32 pm32 an32 cd32 ct32), sl32⟩) (c32 : PySem.W.codeIn K cd32 "law" = true) (k32 : PySem.W.keepIn K (.ref f32) = true)
    (z_abs : PySem.W.nsIn K mainGlobals "abs" = some none)
    (z_all : PySem.W.nsIn K mainGlobals "all" = some none)
    (z_bool : PySem.W.nsIn K mainGlobals "bool" = some none)
    (z_enumerate : PySem.W.nsIn K mainGlobals "enumerate" = some none)
    (z_int : PySem.W.nsIn K mainGlobals "int" = some none)
    (z_isinstance : PySem.W.nsIn K mainGlobals "isinstance" = some none)
    (z_len : PySem.W.nsIn K mainGlobals "len" = some none)
    (z_list : PySem.W.nsIn K mainGlobals "list" = some none)
    (z_max : PySem.W.nsIn K mainGlobals "max" = some none)
    (z_min : PySem.W.nsIn K mainGlobals "min" = some none)
    (z_range : PySem.W.nsIn K mainGlobals "range" = some none)
    (z_repr : PySem.W.nsIn K mainGlobals "repr" = some none)
    (z_sorted : PySem.W.nsIn K mainGlobals "sorted" = some none)
    (z_str : PySem.W.nsIn K mainGlobals "str" = some none)
    (z_sum : PySem.W.nsIn K mainGlobals "sum" = some none)
    (z_tuple : PySem.W.nsIn K mainGlobals "tuple" = some none)
    (z_zip : PySem.W.nsIn K mainGlobals "zip" = some none)
    {p_FORMS : Addr} {n_FORMS : Nat} {t_FORMS_0 t_FORMS_1 t_FORMS_2 t_FORMS_3 t_FORMS_4 t_FORMS_5 t_FORMS_6 t_FORMS_7 t_FORMS_8 t_FORMS_9 t_FORMS_10 t_FORMS_11 t_FORMS_12 t_FORMS_13 t_FORMS_14 t_FORMS_15 t_FORMS_16 t_FORMS_17 t_FORMS_18 t_FORMS_19 t_FORMS_20 t_FORMS_21 : Tok}
    {q_FORMS_0 : Addr} {dd_FORMS_0 : Option Addr} {n_FORMS_0 : Nat} {sl_FORMS_0 : Array (Option Value)} {u_FORMS_0_0 u_FORMS_0_1 : Tok} 
    {q_FORMS_1 : Addr} {dd_FORMS_1 : Option Addr} {n_FORMS_1 : Nat} {sl_FORMS_1 : Array (Option Value)} {u_FORMS_1_0 u_FORMS_1_1 : Tok} 
    {q_FORMS_2 : Addr} {dd_FORMS_2 : Option Addr} {n_FORMS_2 : Nat} {sl_FORMS_2 : Array (Option Value)} {u_FORMS_2_0 u_FORMS_2_1 u_FORMS_2_2 : Tok} 
    {q_FORMS_3 : Addr} {dd_FORMS_3 : Option Addr} {n_FORMS_3 : Nat} {sl_FORMS_3 : Array (Option Value)} {u_FORMS_3_0 u_FORMS_3_1 : Tok} 
    {q_FORMS_4 : Addr} {dd_FORMS_4 : Option Addr} {n_FORMS_4 : Nat} {sl_FORMS_4 : Array (Option Value)} {u_FORMS_4_0 u_FORMS_4_1 : Tok} 
    {q_FORMS_5 : Addr} {dd_FORMS_5 : Option Addr} {n_FORMS_5 : Nat} {sl_FORMS_5 : Array (Option Value)} {u_FORMS_5_0 u_FORMS_5_1 : Tok} 
    {q_FORMS_6 : Addr} {dd_FORMS_6 : Option Addr} {n_FORMS_6 : Nat} {sl_FORMS_6 : Array (Option Value)} {u_FORMS_6_0 u_FORMS_6_1 : Tok} 
    {q_FORMS_7 : Addr} {dd_FORMS_7 : Option Addr} {n_FORMS_7 : Nat} {sl_FORMS_7 : Array (Option Value)} {u_FORMS_7_0 u_FORMS_7_1 : Tok} 
    {q_FORMS_8 : Addr} {dd_FORMS_8 : Option Addr} {n_FORMS_8 : Nat} {sl_FORMS_8 : Array (Option Value)} {u_FORMS_8_0 u_FORMS_8_1 : Tok} 
    {q_FORMS_9 : Addr} {dd_FORMS_9 : Option Addr} {n_FORMS_9 : Nat} {sl_FORMS_9 : Array (Option Value)} {u_FORMS_9_0 : Tok} 
    {q_FORMS_10 : Addr} {dd_FORMS_10 : Option Addr} {n_FORMS_10 : Nat} {sl_FORMS_10 : Array (Option Value)} {u_FORMS_10_0 u_FORMS_10_1 u_FORMS_10_2 : Tok} 
    {q_FORMS_11 : Addr} {dd_FORMS_11 : Option Addr} {n_FORMS_11 : Nat} {sl_FORMS_11 : Array (Option Value)} {u_FORMS_11_0 : Tok} 
    {q_FORMS_12 : Addr} {dd_FORMS_12 : Option Addr} {n_FORMS_12 : Nat} {sl_FORMS_12 : Array (Option Value)} {u_FORMS_12_0 u_FORMS_12_1 u_FORMS_12_2 : Tok} 
    {q_FORMS_13 : Addr} {dd_FORMS_13 : Option Addr} {n_FORMS_13 : Nat} {sl_FORMS_13 : Array (Option Value)} {u_FORMS_13_0 u_FORMS_13_1 u_FORMS_13_2 : Tok} 
    {q_FORMS_14 : Addr} {dd_FORMS_14 : Option Addr} {n_FORMS_14 : Nat} {sl_FORMS_14 : Array (Option Value)} {u_FORMS_14_0 u_FORMS_14_1 u_FORMS_14_2 : Tok} 
    {q_FORMS_15 : Addr} {dd_FORMS_15 : Option Addr} {n_FORMS_15 : Nat} {sl_FORMS_15 : Array (Option Value)} {u_FORMS_15_0 u_FORMS_15_1 u_FORMS_15_2 u_FORMS_15_3 : Tok} 
    {q_FORMS_16 : Addr} {dd_FORMS_16 : Option Addr} {n_FORMS_16 : Nat} {sl_FORMS_16 : Array (Option Value)} {u_FORMS_16_0 : Tok} 
    {q_FORMS_17 : Addr} {dd_FORMS_17 : Option Addr} {n_FORMS_17 : Nat} {sl_FORMS_17 : Array (Option Value)} {u_FORMS_17_0 : Tok} 
    {q_FORMS_18 : Addr} {dd_FORMS_18 : Option Addr} {n_FORMS_18 : Nat} {sl_FORMS_18 : Array (Option Value)} {u_FORMS_18_0 : Tok} 
    {q_FORMS_19 : Addr} {dd_FORMS_19 : Option Addr} {n_FORMS_19 : Nat} {sl_FORMS_19 : Array (Option Value)} 
    {q_FORMS_20 : Addr} {dd_FORMS_20 : Option Addr} {n_FORMS_20 : Nat} {sl_FORMS_20 : Array (Option Value)} {u_FORMS_20_0 u_FORMS_20_1 : Tok} 
    {q_FORMS_21 : Addr} {dd_FORMS_21 : Option Addr} {n_FORMS_21 : Nat} {sl_FORMS_21 : Array (Option Value)} {u_FORMS_21_0 : Tok} 
    (v_FORMS : PySem.W.nsIn K mainGlobals "FORMS" = some (some (.ref p_FORMS))) (w_FORMS : K.lookup p_FORMS = some ⟨.type "dict", none, .dict #[⟨PyData.keyHash w.params (Str.ofString "set"), Value.str (Str.ofString "set") t_FORMS_0, Value.ref q_FORMS_0⟩, ⟨PyData.keyHash w.params (Str.ofString "move"), Value.str (Str.ofString "move") t_FORMS_1, Value.ref q_FORMS_1⟩, ⟨PyData.keyHash w.params (Str.ofString "do"), Value.str (Str.ofString "do") t_FORMS_2, Value.ref q_FORMS_2⟩, ⟨PyData.keyHash w.params (Str.ofString "walk"), Value.str (Str.ofString "walk") t_FORMS_3, Value.ref q_FORMS_3⟩, ⟨PyData.keyHash w.params (Str.ofString "narrow"), Value.str (Str.ofString "narrow") t_FORMS_4, Value.ref q_FORMS_4⟩, ⟨PyData.keyHash w.params (Str.ofString "exact"), Value.str (Str.ofString "exact") t_FORMS_5, Value.ref q_FORMS_5⟩, ⟨PyData.keyHash w.params (Str.ofString "less"), Value.str (Str.ofString "less") t_FORMS_6, Value.ref q_FORMS_6⟩, ⟨PyData.keyHash w.params (Str.ofString "seal"), Value.str (Str.ofString "seal") t_FORMS_7, Value.ref q_FORMS_7⟩, ⟨PyData.keyHash w.params (Str.ofString "open"), Value.str (Str.ofString "open") t_FORMS_8, Value.ref q_FORMS_8⟩, ⟨PyData.keyHash w.params (Str.ofString "entry"), Value.str (Str.ofString "entry") t_FORMS_9, Value.ref q_FORMS_9⟩, ⟨PyData.keyHash w.params (Str.ofString "ask"), Value.str (Str.ofString "ask") t_FORMS_10, Value.ref q_FORMS_10⟩, ⟨PyData.keyHash w.params (Str.ofString "here"), Value.str (Str.ofString "here") t_FORMS_11, Value.ref q_FORMS_11⟩, ⟨PyData.keyHash w.params (Str.ofString "load"), Value.str (Str.ofString "load") t_FORMS_12, Value.ref q_FORMS_12⟩, ⟨PyData.keyHash w.params (Str.ofString "store"), Value.str (Str.ofString "store") t_FORMS_13, Value.ref q_FORMS_13⟩, ⟨PyData.keyHash w.params (Str.ofString "poke"), Value.str (Str.ofString "poke") t_FORMS_14, Value.ref q_FORMS_14⟩, ⟨PyData.keyHash w.params (Str.ofString "jump"), Value.str (Str.ofString "jump") t_FORMS_15, Value.ref q_FORMS_15⟩, ⟨PyData.keyHash w.params (Str.ofString "go"), Value.str (Str.ofString "go") t_FORMS_16, Value.ref q_FORMS_16⟩, ⟨PyData.keyHash w.params (Str.ofString "enter"), Value.str (Str.ofString "enter") t_FORMS_17, Value.ref q_FORMS_17⟩, ⟨PyData.keyHash w.params (Str.ofString "call"), Value.str (Str.ofString "call") t_FORMS_18, Value.ref q_FORMS_18⟩, ⟨PyData.keyHash w.params (Str.ofString "back"), Value.str (Str.ofString "back") t_FORMS_19, Value.ref q_FORMS_19⟩, ⟨PyData.keyHash w.params (Str.ofString "room"), Value.str (Str.ofString "room") t_FORMS_20, Value.ref q_FORMS_20⟩, ⟨PyData.keyHash w.params (Str.ofString "give"), Value.str (Str.ofString "give") t_FORMS_21, Value.ref q_FORMS_21⟩] n_FORMS, #[]⟩)
    (w_FORMS_0 : K.lookup q_FORMS_0 = some ⟨.type "tuple", dd_FORMS_0, .seq #[(Value.str (Str.ofString "box") u_FORMS_0_0), (Value.str (Str.ofString "worth") u_FORMS_0_1)] n_FORMS_0, sl_FORMS_0⟩)
    (w_FORMS_1 : K.lookup q_FORMS_1 = some ⟨.type "tuple", dd_FORMS_1, .seq #[(Value.str (Str.ofString "box") u_FORMS_1_0), (Value.str (Str.ofString "box") u_FORMS_1_1)] n_FORMS_1, sl_FORMS_1⟩)
    (w_FORMS_2 : K.lookup q_FORMS_2 = some ⟨.type "tuple", dd_FORMS_2, .seq #[(Value.str (Str.ofString "doing") u_FORMS_2_0), (Value.str (Str.ofString "box") u_FORMS_2_1), (Value.str (Str.ofString "by") u_FORMS_2_2)] n_FORMS_2, sl_FORMS_2⟩)
    (w_FORMS_3 : K.lookup q_FORMS_3 = some ⟨.type "tuple", dd_FORMS_3, .seq #[(Value.str (Str.ofString "box") u_FORMS_3_0), (Value.str (Str.ofString "by") u_FORMS_3_1)] n_FORMS_3, sl_FORMS_3⟩)
    (w_FORMS_4 : K.lookup q_FORMS_4 = some ⟨.type "tuple", dd_FORMS_4, .seq #[(Value.str (Str.ofString "box") u_FORMS_4_0), (Value.str (Str.ofString "by") u_FORMS_4_1)] n_FORMS_4, sl_FORMS_4⟩)
    (w_FORMS_5 : K.lookup q_FORMS_5 = some ⟨.type "tuple", dd_FORMS_5, .seq #[(Value.str (Str.ofString "box") u_FORMS_5_0), (Value.str (Str.ofString "by") u_FORMS_5_1)] n_FORMS_5, sl_FORMS_5⟩)
    (w_FORMS_6 : K.lookup q_FORMS_6 = some ⟨.type "tuple", dd_FORMS_6, .seq #[(Value.str (Str.ofString "box") u_FORMS_6_0), (Value.str (Str.ofString "rights") u_FORMS_6_1)] n_FORMS_6, sl_FORMS_6⟩)
    (w_FORMS_7 : K.lookup q_FORMS_7 = some ⟨.type "tuple", dd_FORMS_7, .seq #[(Value.str (Str.ofString "box") u_FORMS_7_0), (Value.str (Str.ofString "box") u_FORMS_7_1)] n_FORMS_7, sl_FORMS_7⟩)
    (w_FORMS_8 : K.lookup q_FORMS_8 = some ⟨.type "tuple", dd_FORMS_8, .seq #[(Value.str (Str.ofString "box") u_FORMS_8_0), (Value.str (Str.ofString "box") u_FORMS_8_1)] n_FORMS_8, sl_FORMS_8⟩)
    (w_FORMS_9 : K.lookup q_FORMS_9 = some ⟨.type "tuple", dd_FORMS_9, .seq #[(Value.str (Str.ofString "box") u_FORMS_9_0)] n_FORMS_9, sl_FORMS_9⟩)
    (w_FORMS_10 : K.lookup q_FORMS_10 = some ⟨.type "tuple", dd_FORMS_10, .seq #[(Value.str (Str.ofString "box") u_FORMS_10_0), (Value.str (Str.ofString "asked") u_FORMS_10_1), (Value.str (Str.ofString "box") u_FORMS_10_2)] n_FORMS_10, sl_FORMS_10⟩)
    (w_FORMS_11 : K.lookup q_FORMS_11 = some ⟨.type "tuple", dd_FORMS_11, .seq #[(Value.str (Str.ofString "box") u_FORMS_11_0)] n_FORMS_11, sl_FORMS_11⟩)
    (w_FORMS_12 : K.lookup q_FORMS_12 = some ⟨.type "tuple", dd_FORMS_12, .seq #[(Value.str (Str.ofString "box") u_FORMS_12_0), (Value.str (Str.ofString "box") u_FORMS_12_1), (Value.str (Str.ofString "offset") u_FORMS_12_2)] n_FORMS_12, sl_FORMS_12⟩)
    (w_FORMS_13 : K.lookup q_FORMS_13 = some ⟨.type "tuple", dd_FORMS_13, .seq #[(Value.str (Str.ofString "box") u_FORMS_13_0), (Value.str (Str.ofString "offset") u_FORMS_13_1), (Value.str (Str.ofString "box") u_FORMS_13_2)] n_FORMS_13, sl_FORMS_13⟩)
    (w_FORMS_14 : K.lookup q_FORMS_14 = some ⟨.type "tuple", dd_FORMS_14, .seq #[(Value.str (Str.ofString "box") u_FORMS_14_0), (Value.str (Str.ofString "offset") u_FORMS_14_1), (Value.str (Str.ofString "box") u_FORMS_14_2)] n_FORMS_14, sl_FORMS_14⟩)
    (w_FORMS_15 : K.lookup q_FORMS_15 = some ⟨.type "tuple", dd_FORMS_15, .seq #[(Value.str (Str.ofString "test") u_FORMS_15_0), (Value.str (Str.ofString "box") u_FORMS_15_1), (Value.str (Str.ofString "by") u_FORMS_15_2), (Value.str (Str.ofString "to") u_FORMS_15_3)] n_FORMS_15, sl_FORMS_15⟩)
    (w_FORMS_16 : K.lookup q_FORMS_16 = some ⟨.type "tuple", dd_FORMS_16, .seq #[(Value.str (Str.ofString "to") u_FORMS_16_0)] n_FORMS_16, sl_FORMS_16⟩)
    (w_FORMS_17 : K.lookup q_FORMS_17 = some ⟨.type "tuple", dd_FORMS_17, .seq #[(Value.str (Str.ofString "box") u_FORMS_17_0)] n_FORMS_17, sl_FORMS_17⟩)
    (w_FORMS_18 : K.lookup q_FORMS_18 = some ⟨.type "tuple", dd_FORMS_18, .seq #[(Value.str (Str.ofString "box") u_FORMS_18_0)] n_FORMS_18, sl_FORMS_18⟩)
    (w_FORMS_19 : K.lookup q_FORMS_19 = some ⟨.type "tuple", dd_FORMS_19, .seq #[] n_FORMS_19, sl_FORMS_19⟩)
    (w_FORMS_20 : K.lookup q_FORMS_20 = some ⟨.type "tuple", dd_FORMS_20, .seq #[(Value.str (Str.ofString "box") u_FORMS_20_0), (Value.str (Str.ofString "by") u_FORMS_20_1)] n_FORMS_20, sl_FORMS_20⟩)
    (w_FORMS_21 : K.lookup q_FORMS_21 = some ⟨.type "tuple", dd_FORMS_21, .seq #[(Value.str (Str.ofString "box") u_FORMS_21_0)] n_FORMS_21, sl_FORMS_21⟩)
    (lo_FORMS : (p_FORMS == sysModules) = false)
    {t_MOST_FIGURES : Tok} (v_MOST_FIGURES : PySem.W.nsIn K mainGlobals "MOST_FIGURES" = some (some (.int 30 t_MOST_FIGURES)))
    {t_MOST_ROWS : Tok} (v_MOST_ROWS : PySem.W.nsIn K mainGlobals "MOST_ROWS" = some (some (.int 64 t_MOST_ROWS)))
    {p_NUMBERS : Addr} {n_NUMBERS : Nat} {t_NUMBERS_0 t_NUMBERS_1 t_NUMBERS_2 t_NUMBERS_3 : Tok}
    {q_NUMBERS_0 : Addr} {dd_NUMBERS_0 : Option Addr} {n_NUMBERS_0 : Nat} {sl_NUMBERS_0 : Array (Option Value)} {u_NUMBERS_0_0 u_NUMBERS_0_1 : Tok} 
    {q_NUMBERS_1 : Addr} {dd_NUMBERS_1 : Option Addr} {n_NUMBERS_1 : Nat} {sl_NUMBERS_1 : Array (Option Value)} {u_NUMBERS_1_0 u_NUMBERS_1_1 : Tok} 
    {q_NUMBERS_2 : Addr} {dd_NUMBERS_2 : Option Addr} {n_NUMBERS_2 : Nat} {sl_NUMBERS_2 : Array (Option Value)} {u_NUMBERS_2_0 u_NUMBERS_2_1 : Tok} 
    {q_NUMBERS_3 : Addr} {dd_NUMBERS_3 : Option Addr} {n_NUMBERS_3 : Nat} {sl_NUMBERS_3 : Array (Option Value)} {u_NUMBERS_3_0 u_NUMBERS_3_1 : Tok} 
    (v_NUMBERS : PySem.W.nsIn K mainGlobals "NUMBERS" = some (some (.ref p_NUMBERS))) (w_NUMBERS : K.lookup p_NUMBERS = some ⟨.type "dict", none, .dict #[⟨PyData.keyHash w.params (Str.ofString "box"), Value.str (Str.ofString "box") t_NUMBERS_0, Value.ref q_NUMBERS_0⟩, ⟨PyData.keyHash w.params (Str.ofString "worth"), Value.str (Str.ofString "worth") t_NUMBERS_1, Value.ref q_NUMBERS_1⟩, ⟨PyData.keyHash w.params (Str.ofString "offset"), Value.str (Str.ofString "offset") t_NUMBERS_2, Value.ref q_NUMBERS_2⟩, ⟨PyData.keyHash w.params (Str.ofString "to"), Value.str (Str.ofString "to") t_NUMBERS_3, Value.ref q_NUMBERS_3⟩] n_NUMBERS, #[]⟩)
    (w_NUMBERS_0 : K.lookup q_NUMBERS_0 = some ⟨.type "tuple", dd_NUMBERS_0, .seq #[(Value.int 0 u_NUMBERS_0_0), (Value.int 7 u_NUMBERS_0_1)] n_NUMBERS_0, sl_NUMBERS_0⟩)
    (w_NUMBERS_1 : K.lookup q_NUMBERS_1 = some ⟨.type "tuple", dd_NUMBERS_1, .seq #[(Value.int 0 u_NUMBERS_1_0), (Value.int 65535 u_NUMBERS_1_1)] n_NUMBERS_1, sl_NUMBERS_1⟩)
    (w_NUMBERS_2 : K.lookup q_NUMBERS_2 = some ⟨.type "tuple", dd_NUMBERS_2, .seq #[(Value.int (-8) u_NUMBERS_2_0), (Value.int 15 u_NUMBERS_2_1)] n_NUMBERS_2, sl_NUMBERS_2⟩)
    (w_NUMBERS_3 : K.lookup q_NUMBERS_3 = some ⟨.type "tuple", dd_NUMBERS_3, .seq #[(Value.int 0 u_NUMBERS_3_0), (Value.int 4095 u_NUMBERS_3_1)] n_NUMBERS_3, sl_NUMBERS_3⟩)
    (lo_NUMBERS : (p_NUMBERS == sysModules) = false)
    {t_RIGHTS : Tok} (v_RIGHTS : PySem.W.nsIn K mainGlobals "RIGHTS" = some (some (.str (Str.ofString "rwlsnfxco") t_RIGHTS)))
    {p_WORDS : Addr} {n_WORDS : Nat} {t_WORDS_0 t_WORDS_1 t_WORDS_2 : Tok}
    {q_WORDS_0 : Addr} {dd_WORDS_0 : Option Addr} {n_WORDS_0 : Nat} {sl_WORDS_0 : Array (Option Value)} {u_WORDS_0_0 u_WORDS_0_1 u_WORDS_0_2 u_WORDS_0_3 u_WORDS_0_4 u_WORDS_0_5 : Tok} 
    {q_WORDS_1 : Addr} {dd_WORDS_1 : Option Addr} {n_WORDS_1 : Nat} {sl_WORDS_1 : Array (Option Value)} {u_WORDS_1_0 u_WORDS_1_1 u_WORDS_1_2 u_WORDS_1_3 u_WORDS_1_4 u_WORDS_1_5 u_WORDS_1_6 : Tok} 
    {q_WORDS_2 : Addr} {dd_WORDS_2 : Option Addr} {n_WORDS_2 : Nat} {sl_WORDS_2 : Array (Option Value)} {u_WORDS_2_0 u_WORDS_2_1 u_WORDS_2_2 u_WORDS_2_3 : Tok} 
    (v_WORDS : PySem.W.nsIn K mainGlobals "WORDS" = some (some (.ref p_WORDS))) (w_WORDS : K.lookup p_WORDS = some ⟨.type "dict", none, .dict #[⟨PyData.keyHash w.params (Str.ofString "doing"), Value.str (Str.ofString "doing") t_WORDS_0, Value.ref q_WORDS_0⟩, ⟨PyData.keyHash w.params (Str.ofString "asked"), Value.str (Str.ofString "asked") t_WORDS_1, Value.ref q_WORDS_1⟩, ⟨PyData.keyHash w.params (Str.ofString "test"), Value.str (Str.ofString "test") t_WORDS_2, Value.ref q_WORDS_2⟩] n_WORDS, #[]⟩)
    (w_WORDS_0 : K.lookup q_WORDS_0 = some ⟨.type "tuple", dd_WORDS_0, .seq #[(Value.str (Str.ofString "plus") u_WORDS_0_0), (Value.str (Str.ofString "minus") u_WORDS_0_1), (Value.str (Str.ofString "times") u_WORDS_0_2), (Value.str (Str.ofString "and") u_WORDS_0_3), (Value.str (Str.ofString "or") u_WORDS_0_4), (Value.str (Str.ofString "either") u_WORDS_0_5)] n_WORDS_0, sl_WORDS_0⟩)
    (w_WORDS_1 : K.lookup q_WORDS_1 = some ⟨.type "tuple", dd_WORDS_1, .seq #[(Value.str (Str.ofString "mark") u_WORDS_1_0), (Value.str (Str.ofString "bits") u_WORDS_1_1), (Value.str (Str.ofString "at") u_WORDS_1_2), (Value.str (Str.ofString "low") u_WORDS_1_3), (Value.str (Str.ofString "high") u_WORDS_1_4), (Value.str (Str.ofString "rights") u_WORDS_1_5), (Value.str (Str.ofString "kind") u_WORDS_1_6)] n_WORDS_1, sl_WORDS_1⟩)
    (w_WORDS_2 : K.lookup q_WORDS_2 = some ⟨.type "tuple", dd_WORDS_2, .seq #[(Value.str (Str.ofString "same") u_WORDS_2_0), (Value.str (Str.ofString "unlike") u_WORDS_2_1), (Value.str (Str.ofString "under") u_WORDS_2_2), (Value.str (Str.ofString "from") u_WORDS_2_3)] n_WORDS_2, sl_WORDS_2⟩)
    (lo_WORDS : (p_WORDS == sysModules) = false)
    {C_NoRows : Addr} (ac_NoRows : PySem.W.nsIn K mainGlobals "NoRows" = some (some (.ref C_NoRows)))
    {C_NoText : Addr} (ac_NoText : PySem.W.nsIn K mainGlobals "NoText" = some (some (.ref C_NoText)))
    {C_ReachError : Addr} (ac_ReachError : PySem.W.nsIn K mainGlobals "ReachError" = some (some (.ref C_ReachError)))
    {nm_NoText q_NoText : Str} {N_NoText B_NoText fi_NoText : Addr} {bs_NoText : List Value} {sn_NoText : List Str} {sub_NoText : List Value} {ab_NoText : Bool} {col_NoText : Option Bool} {dd_NoText od_NoText an_NoText : Option Addr} {m0_NoText m1_NoText m2_NoText m3_NoText m5_NoText : Option Value} {oc_NoText kV_NoText dc_NoText pm_NoText cd_NoText ct_NoText : Value} {osl_NoText : Array (Option Value)}
    (xl_NoText : K.lookup C_NoText = some (excClassObj nm_NoText q_NoText C_NoText N_NoText bs_NoText [.ref B_NoText, .type "ValueError", .type "Exception", .type "BaseException", .type "object"] true sn_NoText sub_NoText ab_NoText col_NoText dd_NoText m0_NoText m1_NoText m2_NoText m3_NoText m5_NoText "ValueError.__new__"))
    (sa_NoText : PySem.W.findIn K (.ref C_NoText) "__setattr__" = some (some (.builtin "object.__setattr__")))
    (eb_NoText : PySem.W.subIn K (.ref C_NoText) (.type "BaseException") = some true)
    (ty_NoText : PySem.W.typeIn K (.ref C_NoText) = some (.type "type"))
    (kc_NoText : PySem.W.keepIn K (.ref C_NoText) = true)
    (no_NoText : PySem.W.findIn K (.ref C_NoText) "number" = some none)
    (in_NoText : PySem.W.findIn K (.ref C_NoText) "__init__" = some (some (.ref fi_NoText))) (ti_NoText : PySem.W.typeIn K (.ref fi_NoText) = some (.type "function"))
    (li_NoText : K.lookup fi_NoText = some ⟨oc_NoText, od_NoText, .func (PySem.W.fnOf "__init__" "NoText.__init__" (defArgs si_NoText) (defBody si_NoText) (defScope si_NoText) .none kV_NoText dc_NoText pm_NoText an_NoText cd_NoText ct_NoText), osl_NoText⟩) (ci_NoText : PySem.W.codeIn K cd_NoText "NoText.__init__" = true) (ki_NoText : PySem.W.keepIn K (.ref fi_NoText) = true)
    (xb_NoText_ReachError : PySem.W.subIn K (.ref C_ReachError) (.type "BaseException") = some true)
    (xh_NoText_ReachError : PySem.W.hasDictIn K C_ReachError = true)
    (xt_NoText_ReachError : PySem.W.typeIn K (.ref C_ReachError) = some (.type "type"))
    (xs_NoText_ReachError : PySem.W.subIn K (.ref C_NoText) (.ref C_ReachError) = some true)
    (ecg_NoText : PySem.W.findIn K (.ref C_NoText) "__getattribute__" = some (some (.builtin "BaseException.__getattribute__")))
    (eck_NoText : PySem.W.findIn K (.ref C_NoText) "__getattr__" = some none)
    (ecs_NoText : PySem.W.subIn K (.ref C_NoText) (.type "BaseException") = some true)
    (ecd_NoText : PySem.W.hasDictIn K C_NoText = true)
    (eca_NoText : PySem.W.findIn K (.ref C_NoText) "__class__" = some (some (.builtin "object.__class__")))
    (ecn_NoText : PySem.W.specialIn K (.builtin "object.__class__") "__get__" = some (some (.builtin "getset_descriptor.__get__")))
    (ect_NoText : PySem.W.takesIn K (.builtin "object.__class__") = some true)
    (ecm_NoText : PySem.W.mroIn K C_NoText (.type "object") = some true)
    (kt_NoText_NoText : PySem.W.kitOne K (.ref C_NoText) (.ref C_NoText) = some true)
    (kt_NoText_NoRows : PySem.W.kitOne K (.ref C_NoText) (.ref C_NoRows) = some false)
    (ef_NoText_number : PySem.W.findIn K (.ref C_NoText) "number" = some none)
    : ∀ (base : Heap) (H : Hp) (s : Shared) (a : Addr) (ns : List Int), K.In base → base.Ns mainGlobals mg → Env0 l.prog w K mg base callerA [] s H → SqL K H a (ns.map V.int) → ns.length ≤ 63 → SysAt K H → codeAny (model l.prog w) callerA (.call (.ref fa) ⟨[.ref a], []⟩) (CR CX0 [] l.prog w H s (fun v _ => v = .bl true) fun _ _ _ => False) s := by
  have e := hfa.symm.trans (PySem.W.mg_of X G a32)
  cases e
  have F0 := fun_mk (st := s__law_take) l0 c0 k0
  have F1 := fun_mk (st := s__law_pool) l1 c1 k1
  have F2 := fun_mk (st := s_is_whole) l2 c2 k2
  have F3 := fun_mk (st := s_is_rights) l3 c3 k3
  have F4 := fun_mk (st := s__is_part__v0) l4 c4 k4
  have F5 := fun_mk (st := s__is_by) l5 c5 k5
  have F6 := fun_mk (st := s__is_part) l6 c6 k6
  have F7 := fun_mk (st := s_is_row) l7 c7 k7
  have F8 := fun_mk (st := s__law_forms) l8 c8 k8
  have F9 := fun_mk (st := s__law_lists) l9 c9 k9
  have F10 := fun_mk (st := s__law_part__v0) l10 c10 k10
  have F11 := fun_mk (st := s__law_part) l11 c11 k11
  have F12 := fun_mk (st := s__law_row) l12 c12 k12
  have F13 := fun_mk (st := s__law_is_from) l13 c13 k13
  have F14 := fun_mk (st := s__law_is_part__v0) l14 c14 k14
  have F15 := fun_mk (st := s__law_is_part) l15 c15 k15
  have F16 := fun_mk (st := s__law_is_row) l16 c16 k16
  have F17 := fun_mk (st := s_whole_in) l17 c17 k17
  have F18 := fun_mk (st := s__by_in) l18 c18 k18
  have F19 := fun_mk (st := s__rights_in) l19 c19 k19
  have F20 := fun_mk (st := s__part_in) l20 c20 k20
  have F21 := fun_mk (st := s_row_in) l21 c21 k21
  have F22 := fun_mk (st := s_read_rows) l22 c22 k22
  have F23 := fun_mk (st := s__law_shown_part) l23 c23 k23
  have F24 := fun_mk (st := s__law_line) l24 c24 k24
  have F25 := fun_mk (st := s__law_text) l25 c25 k25
  have F26 := fun_mk (st := s__law_number_in) l26 c26 k26
  have F27 := fun_mk (st := s__law_part_in) l27 c27 k27
  have F28 := fun_mk (st := s__law_row_in) l28 c28 k28
  have F29 := fun_mk (st := s__law_due) l29 c29 k29
  have F30 := fun_mk (st := s__law_told) l30 c30 k30
  have F31 := fun_mk (st := s__law_bent) l31 c31 k31
  have F32 := fun_mk (st := s_law) l32 c32 k32
  have T : Txt K w mg := ⟨PySem.W.mg_none_of X G z_abs, PySem.W.mg_none_of X G z_all, PySem.W.mg_none_of X G z_bool, PySem.W.mg_none_of X G z_enumerate, PySem.W.mg_none_of X G z_int, PySem.W.mg_none_of X G z_isinstance, PySem.W.mg_none_of X G z_len, PySem.W.mg_none_of X G z_list, PySem.W.mg_none_of X G z_max, PySem.W.mg_none_of X G z_min, PySem.W.mg_none_of X G z_range, PySem.W.mg_none_of X G z_repr, PySem.W.mg_none_of X G z_sorted, PySem.W.mg_none_of X G z_str, PySem.W.mg_none_of X G z_sum, PySem.W.mg_none_of X G z_tuple, PySem.W.mg_none_of X G z_zip, ⟨_, PySem.W.mg_of X G v_FORMS, ktab_of w_FORMS (.cons (v := .ref q_FORMS_0) rfl ⟨_, rfl, fun H => .inr ⟨_, _, _, w_FORMS_0, rfl, rfl, by show 2 ≤ sizeLine; decide, .cons ⟨_, rfl⟩ (.cons ⟨_, rfl⟩ (.nil))⟩⟩ (.cons (v := .ref q_FORMS_1) rfl ⟨_, rfl, fun H => .inr ⟨_, _, _, w_FORMS_1, rfl, rfl, by show 2 ≤ sizeLine; decide, .cons ⟨_, rfl⟩ (.cons ⟨_, rfl⟩ (.nil))⟩⟩ (.cons (v := .ref q_FORMS_2) rfl ⟨_, rfl, fun H => .inr ⟨_, _, _, w_FORMS_2, rfl, rfl, by show 3 ≤ sizeLine; decide, .cons ⟨_, rfl⟩ (.cons ⟨_, rfl⟩ (.cons ⟨_, rfl⟩ (.nil)))⟩⟩ (.cons (v := .ref q_FORMS_3) rfl ⟨_, rfl, fun H => .inr ⟨_, _, _, w_FORMS_3, rfl, rfl, by show 2 ≤ sizeLine; decide, .cons ⟨_, rfl⟩ (.cons ⟨_, rfl⟩ (.nil))⟩⟩ (.cons (v := .ref q_FORMS_4) rfl ⟨_, rfl, fun H => .inr ⟨_, _, _, w_FORMS_4, rfl, rfl, by show 2 ≤ sizeLine; decide, .cons ⟨_, rfl⟩ (.cons ⟨_, rfl⟩ (.nil))⟩⟩ (.cons (v := .ref q_FORMS_5) rfl ⟨_, rfl, fun H => .inr ⟨_, _, _, w_FORMS_5, rfl, rfl, by show 2 ≤ sizeLine; decide, .cons ⟨_, rfl⟩ (.cons ⟨_, rfl⟩ (.nil))⟩⟩ (.cons (v := .ref q_FORMS_6) rfl ⟨_, rfl, fun H => .inr ⟨_, _, _, w_FORMS_6, rfl, rfl, by show 2 ≤ sizeLine; decide, .cons ⟨_, rfl⟩ (.cons ⟨_, rfl⟩ (.nil))⟩⟩ (.cons (v := .ref q_FORMS_7) rfl ⟨_, rfl, fun H => .inr ⟨_, _, _, w_FORMS_7, rfl, rfl, by show 2 ≤ sizeLine; decide, .cons ⟨_, rfl⟩ (.cons ⟨_, rfl⟩ (.nil))⟩⟩ (.cons (v := .ref q_FORMS_8) rfl ⟨_, rfl, fun H => .inr ⟨_, _, _, w_FORMS_8, rfl, rfl, by show 2 ≤ sizeLine; decide, .cons ⟨_, rfl⟩ (.cons ⟨_, rfl⟩ (.nil))⟩⟩ (.cons (v := .ref q_FORMS_9) rfl ⟨_, rfl, fun H => .inr ⟨_, _, _, w_FORMS_9, rfl, rfl, by show 1 ≤ sizeLine; decide, .cons ⟨_, rfl⟩ (.nil)⟩⟩ (.cons (v := .ref q_FORMS_10) rfl ⟨_, rfl, fun H => .inr ⟨_, _, _, w_FORMS_10, rfl, rfl, by show 3 ≤ sizeLine; decide, .cons ⟨_, rfl⟩ (.cons ⟨_, rfl⟩ (.cons ⟨_, rfl⟩ (.nil)))⟩⟩ (.cons (v := .ref q_FORMS_11) rfl ⟨_, rfl, fun H => .inr ⟨_, _, _, w_FORMS_11, rfl, rfl, by show 1 ≤ sizeLine; decide, .cons ⟨_, rfl⟩ (.nil)⟩⟩ (.cons (v := .ref q_FORMS_12) rfl ⟨_, rfl, fun H => .inr ⟨_, _, _, w_FORMS_12, rfl, rfl, by show 3 ≤ sizeLine; decide, .cons ⟨_, rfl⟩ (.cons ⟨_, rfl⟩ (.cons ⟨_, rfl⟩ (.nil)))⟩⟩ (.cons (v := .ref q_FORMS_13) rfl ⟨_, rfl, fun H => .inr ⟨_, _, _, w_FORMS_13, rfl, rfl, by show 3 ≤ sizeLine; decide, .cons ⟨_, rfl⟩ (.cons ⟨_, rfl⟩ (.cons ⟨_, rfl⟩ (.nil)))⟩⟩ (.cons (v := .ref q_FORMS_14) rfl ⟨_, rfl, fun H => .inr ⟨_, _, _, w_FORMS_14, rfl, rfl, by show 3 ≤ sizeLine; decide, .cons ⟨_, rfl⟩ (.cons ⟨_, rfl⟩ (.cons ⟨_, rfl⟩ (.nil)))⟩⟩ (.cons (v := .ref q_FORMS_15) rfl ⟨_, rfl, fun H => .inr ⟨_, _, _, w_FORMS_15, rfl, rfl, by show 4 ≤ sizeLine; decide, .cons ⟨_, rfl⟩ (.cons ⟨_, rfl⟩ (.cons ⟨_, rfl⟩ (.cons ⟨_, rfl⟩ (.nil))))⟩⟩ (.cons (v := .ref q_FORMS_16) rfl ⟨_, rfl, fun H => .inr ⟨_, _, _, w_FORMS_16, rfl, rfl, by show 1 ≤ sizeLine; decide, .cons ⟨_, rfl⟩ (.nil)⟩⟩ (.cons (v := .ref q_FORMS_17) rfl ⟨_, rfl, fun H => .inr ⟨_, _, _, w_FORMS_17, rfl, rfl, by show 1 ≤ sizeLine; decide, .cons ⟨_, rfl⟩ (.nil)⟩⟩ (.cons (v := .ref q_FORMS_18) rfl ⟨_, rfl, fun H => .inr ⟨_, _, _, w_FORMS_18, rfl, rfl, by show 1 ≤ sizeLine; decide, .cons ⟨_, rfl⟩ (.nil)⟩⟩ (.cons (v := .ref q_FORMS_19) rfl ⟨_, rfl, fun H => .inr ⟨_, _, _, w_FORMS_19, rfl, rfl, by show 0 ≤ sizeLine; decide, .nil⟩⟩ (.cons (v := .ref q_FORMS_20) rfl ⟨_, rfl, fun H => .inr ⟨_, _, _, w_FORMS_20, rfl, rfl, by show 2 ≤ sizeLine; decide, .cons ⟨_, rfl⟩ (.cons ⟨_, rfl⟩ (.nil))⟩⟩ (.cons (v := .ref q_FORMS_21) rfl ⟨_, rfl, fun H => .inr ⟨_, _, _, w_FORMS_21, rfl, rfl, by show 1 ≤ sizeLine; decide, .cons ⟨_, rfl⟩ (.nil)⟩⟩ .nil)))))))))))))))))))))) lo_FORMS⟩, ⟨_, PySem.W.mg_of X G v_MOST_FIGURES⟩, ⟨_, PySem.W.mg_of X G v_MOST_ROWS⟩, ⟨_, PySem.W.mg_of X G v_NUMBERS, ktab_of w_NUMBERS (.cons (v := .ref q_NUMBERS_0) rfl ⟨_, rfl, fun H => .inr ⟨_, _, _, w_NUMBERS_0, rfl, rfl, by show 2 ≤ sizeLine; decide, .cons ⟨_, rfl⟩ (.cons ⟨_, rfl⟩ (.nil))⟩⟩ (.cons (v := .ref q_NUMBERS_1) rfl ⟨_, rfl, fun H => .inr ⟨_, _, _, w_NUMBERS_1, rfl, rfl, by show 2 ≤ sizeLine; decide, .cons ⟨_, rfl⟩ (.cons ⟨_, rfl⟩ (.nil))⟩⟩ (.cons (v := .ref q_NUMBERS_2) rfl ⟨_, rfl, fun H => .inr ⟨_, _, _, w_NUMBERS_2, rfl, rfl, by show 2 ≤ sizeLine; decide, .cons ⟨_, rfl⟩ (.cons ⟨_, rfl⟩ (.nil))⟩⟩ (.cons (v := .ref q_NUMBERS_3) rfl ⟨_, rfl, fun H => .inr ⟨_, _, _, w_NUMBERS_3, rfl, rfl, by show 2 ≤ sizeLine; decide, .cons ⟨_, rfl⟩ (.cons ⟨_, rfl⟩ (.nil))⟩⟩ .nil)))) lo_NUMBERS⟩, ⟨_, PySem.W.mg_of X G v_RIGHTS⟩, ⟨_, PySem.W.mg_of X G v_WORDS, ktab_of w_WORDS (.cons (v := .ref q_WORDS_0) rfl ⟨_, rfl, fun H => .inr ⟨_, _, _, w_WORDS_0, rfl, rfl, by show 6 ≤ sizeLine; decide, .cons ⟨_, rfl⟩ (.cons ⟨_, rfl⟩ (.cons ⟨_, rfl⟩ (.cons ⟨_, rfl⟩ (.cons ⟨_, rfl⟩ (.cons ⟨_, rfl⟩ (.nil))))))⟩⟩ (.cons (v := .ref q_WORDS_1) rfl ⟨_, rfl, fun H => .inr ⟨_, _, _, w_WORDS_1, rfl, rfl, by show 7 ≤ sizeLine; decide, .cons ⟨_, rfl⟩ (.cons ⟨_, rfl⟩ (.cons ⟨_, rfl⟩ (.cons ⟨_, rfl⟩ (.cons ⟨_, rfl⟩ (.cons ⟨_, rfl⟩ (.cons ⟨_, rfl⟩ (.nil)))))))⟩⟩ (.cons (v := .ref q_WORDS_2) rfl ⟨_, rfl, fun H => .inr ⟨_, _, _, w_WORDS_2, rfl, rfl, by show 4 ≤ sizeLine; decide, .cons ⟨_, rfl⟩ (.cons ⟨_, rfl⟩ (.cons ⟨_, rfl⟩ (.cons ⟨_, rfl⟩ (.nil))))⟩⟩ .nil))) lo_WORDS⟩, ⟨C_NoRows, PySem.W.mg_of X G ac_NoRows, ac_NoRows⟩, ⟨C_NoText, PySem.W.mg_of X G ac_NoText, ac_NoText⟩, ⟨C_ReachError, PySem.W.mg_of X G ac_ReachError, ac_ReachError⟩, fun C D h1 h2 => by cases ns_one ac_NoText h1; cases ns_one ac_ReachError h2; exact exm_own xb_NoText_ReachError xh_NoText_ReachError xt_NoText_ReachError xs_NoText_ReachError, fun C h1 => by cases ns_one ac_NoText h1; exact ⟨ecg_NoText, eck_NoText, ecs_NoText, ecd_NoText, eca_NoText, ecn_NoText, ect_NoText, ecm_NoText⟩, fun C D h1 h2 => by cases ns_one ac_NoText h1; cases ns_one ac_NoText h2; exact kt_NoText_NoText, fun C D h1 h2 => by cases ns_one ac_NoText h1; cases ns_one ac_NoRows h2; exact kt_NoText_NoRows, fun C h1 => by cases ns_one ac_NoText h1; exact ef_NoText_number⟩
  intro base H s a ns kb nb e0 hS hlen sy
  have TO_NoText : OexC K C_NoText := ⟨⟨_, _, _, _, _, _, _, _, _, _, _, _, _, _, _, xl_NoText, by rfl⟩, sa_NoText, eb_NoText, ty_NoText, kc_NoText⟩
  have FI_NoText := fun_mk (st := si_NoText) li_NoText ci_NoText ki_NoText
  have R_NoText : ErrK l.prog w K mg base "NoText" "number" := ⟨C_NoText, fi_NoText, _, ac_NoText, PySem.W.mg_of X G ac_NoText, TO_NoText, in_NoText, ti_NoText, oki_NoText FI_NoText TO_NoText no_NoText, FI_NoText.binds fun _ _ _ _ _ _ us hl => match us, hl with | [_, _], _ => rfl⟩
  have C__law_take : Cal l.prog w K mg base "_law_take" 1 ["_law_pool_here", "_law_many"] (sp__law_take K) := ⟨_, _, ok__law_take F0 T, PySem.W.mg_of X G a0, F0.kp, F0.binds fun _ _ _ _ _ _ us hl => match us, hl with | [_, _], _ => rfl⟩
  have C__law_pool : Cal l.prog w K mg base "_law_pool" 1 ["_law_script", "_law_k"] (sp__law_pool K) := ⟨_, _, ok__law_pool F1 T, PySem.W.mg_of X G a1, F1.kp, F1.binds fun _ _ _ _ _ _ us hl => match us, hl with | [_, _], _ => rfl⟩
  have C_is_whole : Cal l.prog w K mg base "is_whole" 1 ["thing", "least", "most"] (sp_is_whole K) := ⟨_, _, ok_is_whole F2 T, PySem.W.mg_of X G a2, F2.kp, F2.binds fun _ _ _ _ _ _ us hl => match us, hl with | [_, _, _], _ => rfl⟩
  have C_is_rights : Cal l.prog w K mg base "is_rights" 1 ["thing"] (sp_is_rights K) := ⟨_, _, ok_is_rights F3 T, PySem.W.mg_of X G a3, F3.kp, F3.binds fun _ _ _ _ _ _ us hl => match us, hl with | [_], _ => rfl⟩
  have C__is_part__v0 : Cal l.prog w K mg base "_is_part" 2 ["thing", "what"] (sp__is_part__v0 K) := ⟨_, _, ok__is_part__v0 F4 T C_is_whole, PySem.W.mg_of X G a4, F4.kp, F4.binds fun _ _ _ _ _ _ us hl => match us, hl with | [_, _], _ => rfl⟩
  have C__is_by : Cal l.prog w K mg base "_is_by" 3 ["thing"] (sp__is_by K) := ⟨_, _, ok__is_by F5 T C__is_part__v0, PySem.W.mg_of X G a5, F5.kp, F5.binds fun _ _ _ _ _ _ us hl => match us, hl with | [_], _ => rfl⟩
  have C__is_part : Cal l.prog w K mg base "_is_part" 4 ["thing", "what"] (sp__is_part K) := ⟨_, _, ok__is_part F6 T C_is_whole C_is_rights C__is_by, PySem.W.mg_of X G a6, F6.kp, F6.binds fun _ _ _ _ _ _ us hl => match us, hl with | [_, _], _ => rfl⟩
  have C_is_row : Cal l.prog w K mg base "is_row" 5 ["thing"] (sp_is_row K) := ⟨_, _, ok_is_row F7 T C__is_part, PySem.W.mg_of X G a7, F7.kp, F7.binds fun _ _ _ _ _ _ us hl => match us, hl with | [_], _ => rfl⟩
  have C__law_forms : Cal l.prog w K mg base "_law_forms" 1 [] (sp__law_forms K) := ⟨_, _, ok__law_forms F8 T, PySem.W.mg_of X G a8, F8.kp, F8.binds fun _ _ _ _ _ _ us hl => match us, hl with | [], _ => rfl⟩
  have C__law_lists : Cal l.prog w K mg base "_law_lists" 1 ["_law_sort"] (sp__law_lists K) := ⟨_, _, ok__law_lists F9 T, PySem.W.mg_of X G a9, F9.kp, F9.binds fun _ _ _ _ _ _ us hl => match us, hl with | [_], _ => rfl⟩
  have C__law_part__v0 : Cal l.prog w K mg base "_law_part" 2 ["_law_pool_here", "_law_sort"] (sp__law_part__v0 K) := ⟨_, _, ok__law_part__v0 F10 T C__law_take C__law_lists, PySem.W.mg_of X G a10, F10.kp, F10.binds fun _ _ _ _ _ _ us hl => match us, hl with | [_, _], _ => rfl⟩
  have C__law_part : Cal l.prog w K mg base "_law_part" 3 ["_law_pool_here", "_law_sort"] (sp__law_part K) := ⟨_, _, ok__law_part F11 T C__law_take C__law_lists C__law_part__v0, PySem.W.mg_of X G a11, F11.kp, F11.binds fun _ _ _ _ _ _ us hl => match us, hl with | [_, _], _ => rfl⟩
  have C__law_row : Cal l.prog w K mg base "_law_row" 4 ["_law_pool_here"] (sp__law_row K) := ⟨_, _, ok__law_row F12 T C__law_take C__law_forms C__law_part, PySem.W.mg_of X G a12, F12.kp, F12.binds fun _ _ _ _ _ _ us hl => match us, hl with | [_], _ => rfl⟩
  have C__law_is_from : Cal l.prog w K mg base "_law_is_from" 1 ["_law_thing", "_law_low", "_law_high"] (sp__law_is_from K) := ⟨_, _, ok__law_is_from F13 T, PySem.W.mg_of X G a13, F13.kp, F13.binds fun _ _ _ _ _ _ us hl => match us, hl with | [_, _, _], _ => rfl⟩
  have C__law_is_part__v0 : Cal l.prog w K mg base "_law_is_part" 2 ["_law_sort", "_law_thing"] (sp__law_is_part__v0 K) := ⟨_, _, ok__law_is_part__v0 F14 T C__law_is_from, PySem.W.mg_of X G a14, F14.kp, F14.binds fun _ _ _ _ _ _ us hl => match us, hl with | [_, _], _ => rfl⟩
  have C__law_is_part : Cal l.prog w K mg base "_law_is_part" 3 ["_law_sort", "_law_thing"] (sp__law_is_part K) := ⟨_, _, ok__law_is_part F15 T C__law_lists C__law_is_from C__law_is_part__v0, PySem.W.mg_of X G a15, F15.kp, F15.binds fun _ _ _ _ _ _ us hl => match us, hl with | [_, _], _ => rfl⟩
  have C__law_is_row : Cal l.prog w K mg base "_law_is_row" 4 ["_law_thing"] (sp__law_is_row K) := ⟨_, _, ok__law_is_row F16 T C__law_forms C__law_is_part, PySem.W.mg_of X G a16, F16.kp, F16.binds fun _ _ _ _ _ _ us hl => match us, hl with | [_], _ => rfl⟩
  have C_whole_in : Cal l.prog w K mg base "whole_in" 1 ["text"] (sp_whole_in K) := ⟨_, _, ok_whole_in F17 T, PySem.W.mg_of X G a17, F17.kp, F17.binds fun _ _ _ _ _ _ us hl => match us, hl with | [_], _ => rfl⟩
  have C__by_in : Cal l.prog w K mg base "_by_in" 2 ["text"] (sp__by_in K) := ⟨_, _, ok__by_in F18 T C_whole_in, PySem.W.mg_of X G a18, F18.kp, F18.binds fun _ _ _ _ _ _ us hl => match us, hl with | [_], _ => rfl⟩
  have C__rights_in : Cal l.prog w K mg base "_rights_in" 1 ["text"] (sp__rights_in K) := ⟨_, _, ok__rights_in F19 T, PySem.W.mg_of X G a19, F19.kp, F19.binds fun _ _ _ _ _ _ us hl => match us, hl with | [_], _ => rfl⟩
  have C__part_in : Cal l.prog w K mg base "_part_in" 3 ["text", "what"] (sp__part_in K) := ⟨_, _, ok__part_in F20 T C_whole_in C__by_in C__rights_in, PySem.W.mg_of X G a20, F20.kp, F20.binds fun _ _ _ _ _ _ us hl => match us, hl with | [_, _], _ => rfl⟩
  have C_row_in : Cal l.prog w K mg base "row_in" 6 ["line"] (sp_row_in K) := ⟨_, _, ok_row_in F21 T C_is_row C__part_in, PySem.W.mg_of X G a21, F21.kp, F21.binds fun _ _ _ _ _ _ us hl => match us, hl with | [_], _ => rfl⟩
  have C_read_rows : CalX l.prog w K mg base "read_rows" 7 ["text"] (sp_read_rows K) := ⟨_, _, ok_read_rows F22 T C_row_in R_NoText, PySem.W.mg_of X G a22, F22.kp, F22.binds fun _ _ _ _ _ _ us hl => match us, hl with | [_], _ => rfl⟩
  have C__law_shown_part : Cal l.prog w K mg base "_law_shown_part" 1 ["_law_sort", "_law_thing"] (sp__law_shown_part K) := ⟨_, _, ok__law_shown_part F23 T, PySem.W.mg_of X G a23, F23.kp, F23.binds fun _ _ _ _ _ _ us hl => match us, hl with | [_, _], _ => rfl⟩
  have C__law_line : Cal l.prog w K mg base "_law_line" 2 ["_law_row_here"] (sp__law_line K) := ⟨_, _, ok__law_line F24 T C__law_forms C__law_shown_part, PySem.W.mg_of X G a24, F24.kp, F24.binds fun _ _ _ _ _ _ us hl => match us, hl with | [_], _ => rfl⟩
  have C__law_text : Cal l.prog w K mg base "_law_text" 3 ["_law_rows"] (sp__law_text K) := ⟨_, _, ok__law_text F25 T C__law_line, PySem.W.mg_of X G a25, F25.kp, F25.binds fun _ _ _ _ _ _ us hl => match us, hl with | [_], _ => rfl⟩
  have C__law_number_in : Cal l.prog w K mg base "_law_number_in" 1 ["_law_word"] (sp__law_number_in K) := ⟨_, _, ok__law_number_in F26 T, PySem.W.mg_of X G a26, F26.kp, F26.binds fun _ _ _ _ _ _ us hl => match us, hl with | [_], _ => rfl⟩
  have C__law_part_in : Cal l.prog w K mg base "_law_part_in" 2 ["_law_sort", "_law_word"] (sp__law_part_in K) := ⟨_, _, ok__law_part_in F27 T C__law_number_in, PySem.W.mg_of X G a27, F27.kp, F27.binds fun _ _ _ _ _ _ us hl => match us, hl with | [_, _], _ => rfl⟩
  have C__law_row_in : Cal l.prog w K mg base "_law_row_in" 5 ["_law_line_here"] (sp__law_row_in K) := ⟨_, _, ok__law_row_in F28 T C__law_forms C__law_lists C__law_is_row C__law_part_in, PySem.W.mg_of X G a28, F28.kp, F28.binds fun _ _ _ _ _ _ us hl => match us, hl with | [_], _ => rfl⟩
  have C__law_due : Cal l.prog w K mg base "_law_due" 6 ["_law_lines"] (sp__law_due K) := ⟨_, _, ok__law_due F29 T C__law_row_in, PySem.W.mg_of X G a29, F29.kp, F29.binds fun _ _ _ _ _ _ us hl => match us, hl with | [_], _ => rfl⟩
  have C__law_told : Cal l.prog w K mg base "_law_told" 8 ["_law_lines"] (sp__law_told K) := ⟨_, _, ok__law_told F30 T C_read_rows, PySem.W.mg_of X G a30, F30.kp, F30.binds fun _ _ _ _ _ _ us hl => match us, hl with | [_], _ => rfl⟩
  have C__law_bent : Cal l.prog w K mg base "_law_bent" 2 ["_law_pool_here", "_law_here"] (sp__law_bent K) := ⟨_, _, ok__law_bent F31 T C__law_take, PySem.W.mg_of X G a31, F31.kp, F31.binds fun _ _ _ _ _ _ us hl => match us, hl with | [_, _], _ => rfl⟩
  exact ok_law l32 c32 T C__law_take C__law_pool C__law_row C__law_text C__law_due C__law_told C__law_bent e0 hS hlen sy
end My
open PySem PySem.W PyProof.Rows
set_option maxRecDepth 100000 in
set_option maxHeartbeats 0 in
theorem PySem.Challenge.cw_sealedreach_k27_texts_of_no_rows_holds : PySem.Challenge.rw_sealedreach_k27_texts_of_no_rows.Holds := by
  w_on; o_law; k_head; (case hw => w_witness2)
  k_fill
  refine My.walk_scrS (l := PySem.Challenge.rw_sealedreach_k27_texts_of_no_rows) (n := 63) rfl (by decide) rfl (by decide +kernel) (fun w h Y => PySem.W.kIn_of Y) ?F
  case F =>
    intro w mg fa h KX G hmg
    refine' My.all_mk KX G hmg ?a0 ?l0 ?c0 ?k0 ?a1 ?l1 ?c1 ?k1 ?a2 ?l2 ?c2 ?k2 ?a3 ?l3 ?c3 ?k3 ?a4 ?l4 ?c4 ?k4 ?a5 ?l5 ?c5 ?k5 ?a6 ?l6 ?c6 ?k6 ?a7 ?l7 ?c7 ?k7 ?a8 ?l8 ?c8 ?k8 ?a9 ?l9 ?c9 ?k9 ?a10 ?l10 ?c10 ?k10 ?a11 ?l11 ?c11 ?k11 ?a12 ?l12 ?c12 ?k12 ?a13 ?l13 ?c13 ?k13 ?a14 ?l14 ?c14 ?k14 ?a15 ?l15 ?c15 ?k15 ?a16 ?l16 ?c16 ?k16 ?a17 ?l17 ?c17 ?k17 ?a18 ?l18 ?c18 ?k18 ?a19 ?l19 ?c19 ?k19 ?a20 ?l20 ?c20 ?k20 ?a21 ?l21 ?c21 ?k21 ?a22 ?l22 ?c22 ?k22 ?a23 ?l23 ?c23 ?k23 ?a24 ?l24 ?c24 ?k24 ?a25 ?l25 ?c25 ?k25 ?a26 ?l26 ?c26 ?k26 ?a27 ?l27 ?c27 ?k27 ?a28 ?l28 ?c28 ?k28 ?a29 ?l29 ?c29 ?k29 ?a30 ?l30 ?c30 ?k30 ?a31 ?l31 ?c31 ?k31 ?a32 ?l32 ?c32 ?k32 ?z_abs ?z_all ?z_bool ?z_enumerate ?z_int ?z_isinstance ?z_len ?z_list ?z_max ?z_min ?z_range ?z_repr ?z_sorted ?z_str ?z_sum ?z_tuple ?z_zip ?v_FORMS ?w_FORMS ?w_FORMS_0 ?w_FORMS_1 ?w_FORMS_2 ?w_FORMS_3 ?w_FORMS_4 ?w_FORMS_5 ?w_FORMS_6 ?w_FORMS_7 ?w_FORMS_8 ?w_FORMS_9 ?w_FORMS_10 ?w_FORMS_11 ?w_FORMS_12 ?w_FORMS_13 ?w_FORMS_14 ?w_FORMS_15 ?w_FORMS_16 ?w_FORMS_17 ?w_FORMS_18 ?w_FORMS_19 ?w_FORMS_20 ?w_FORMS_21 ?lo_FORMS ?v_MOST_FIGURES ?v_MOST_ROWS ?v_NUMBERS ?w_NUMBERS ?w_NUMBERS_0 ?w_NUMBERS_1 ?w_NUMBERS_2 ?w_NUMBERS_3 ?lo_NUMBERS ?v_RIGHTS ?v_WORDS ?w_WORDS ?w_WORDS_0 ?w_WORDS_1 ?w_WORDS_2 ?lo_WORDS ?ac_NoRows ?ac_NoText ?ac_ReachError ?xl_NoText ?sa_NoText ?eb_NoText ?ty_NoText ?kc_NoText ?no_NoText ?in_NoText ?ti_NoText ?li_NoText ?ci_NoText ?ki_NoText ?xb_NoText_ReachError ?xh_NoText_ReachError ?xt_NoText_ReachError ?xs_NoText_ReachError ?ecg_NoText ?eck_NoText ?ecs_NoText ?ecd_NoText ?eca_NoText ?ecn_NoText ?ect_NoText ?ecm_NoText ?kt_NoText_NoText ?kt_NoText_NoRows ?ef_NoText_number
    (case a0 => k_is)
    (case l0 => k_is)
    (case c0 => k_is)
    (case k0 => k_is)
    (case a1 => k_is)
    (case l1 => k_is)
    (case c1 => k_is)
    (case k1 => k_is)
    (case a2 => k_is)
    (case l2 => k_is)
    (case c2 => k_is)
    (case k2 => k_is)
    (case a3 => k_is)
    (case l3 => k_is)
    (case c3 => k_is)
    (case k3 => k_is)
    (case a4 => k_is)
    (case l4 => k_is)
    (case c4 => k_is)
    (case k4 => k_is)
    (case a5 => k_is)
    (case l5 => k_is)
    (case c5 => k_is)
    (case k5 => k_is)
    (case a6 => k_is)
    (case l6 => k_is)
    (case c6 => k_is)
    (case k6 => k_is)
    (case a7 => k_is)
    (case l7 => k_is)
    (case c7 => k_is)
    (case k7 => k_is)
    (case a8 => k_is)
    (case l8 => k_is)
    (case c8 => k_is)
    (case k8 => k_is)
    (case a9 => k_is)
    (case l9 => k_is)
    (case c9 => k_is)
    (case k9 => k_is)
    (case a10 => k_is)
    (case l10 => k_is)
    (case c10 => k_is)
    (case k10 => k_is)
    (case a11 => k_is)
    (case l11 => k_is)
    (case c11 => k_is)
    (case k11 => k_is)
    (case a12 => k_is)
    (case l12 => k_is)
    (case c12 => k_is)
    (case k12 => k_is)
    (case a13 => k_is)
    (case l13 => k_is)
    (case c13 => k_is)
    (case k13 => k_is)
    (case a14 => k_is)
    (case l14 => k_is)
    (case c14 => k_is)
    (case k14 => k_is)
    (case a15 => k_is)
    (case l15 => k_is)
    (case c15 => k_is)
    (case k15 => k_is)
    (case a16 => k_is)
    (case l16 => k_is)
    (case c16 => k_is)
    (case k16 => k_is)
    (case a17 => k_is)
    (case l17 => k_is)
    (case c17 => k_is)
    (case k17 => k_is)
    (case a18 => k_is)
    (case l18 => k_is)
    (case c18 => k_is)
    (case k18 => k_is)
    (case a19 => k_is)
    (case l19 => k_is)
    (case c19 => k_is)
    (case k19 => k_is)
    (case a20 => k_is)
    (case l20 => k_is)
    (case c20 => k_is)
    (case k20 => k_is)
    (case a21 => k_is)
    (case l21 => k_is)
    (case c21 => k_is)
    (case k21 => k_is)
    (case a22 => k_is)
    (case l22 => k_is)
    (case c22 => k_is)
    (case k22 => k_is)
    (case a23 => k_is)
    (case l23 => k_is)
    (case c23 => k_is)
    (case k23 => k_is)
    (case a24 => k_is)
    (case l24 => k_is)
    (case c24 => k_is)
    (case k24 => k_is)
    (case a25 => k_is)
    (case l25 => k_is)
    (case c25 => k_is)
    (case k25 => k_is)
    (case a26 => k_is)
    (case l26 => k_is)
    (case c26 => k_is)
    (case k26 => k_is)
    (case a27 => k_is)
    (case l27 => k_is)
    (case c27 => k_is)
    (case k27 => k_is)
    (case a28 => k_is)
    (case l28 => k_is)
    (case c28 => k_is)
    (case k28 => k_is)
    (case a29 => k_is)
    (case l29 => k_is)
    (case c29 => k_is)
    (case k29 => k_is)
    (case a30 => k_is)
    (case l30 => k_is)
    (case c30 => k_is)
    (case k30 => k_is)
    (case a31 => k_is)
    (case l31 => k_is)
    (case c31 => k_is)
    (case k31 => k_is)
    (case a32 => k_is)
    (case l32 => k_is)
    (case c32 => k_is)
    (case k32 => k_is)
    (case z_abs => k_is)
    (case z_all => k_is)
    (case z_bool => k_is)
    (case z_enumerate => k_is)
    (case z_int => k_is)
    (case z_isinstance => k_is)
    (case z_len => k_is)
    (case z_list => k_is)
    (case z_max => k_is)
    (case z_min => k_is)
    (case z_range => k_is)
    (case z_repr => k_is)
    (case z_sorted => k_is)
    (case z_str => k_is)
    (case z_sum => k_is)
    (case z_tuple => k_is)
    (case z_zip => k_is)
    (case v_FORMS => k_is)
    (case w_FORMS => k_is)
    (case w_FORMS_0 => k_is)
    (case w_FORMS_1 => k_is)
    (case w_FORMS_2 => k_is)
    (case w_FORMS_3 => k_is)
    (case w_FORMS_4 => k_is)
    (case w_FORMS_5 => k_is)
    (case w_FORMS_6 => k_is)
    (case w_FORMS_7 => k_is)
    (case w_FORMS_8 => k_is)
    (case w_FORMS_9 => k_is)
    (case w_FORMS_10 => k_is)
    (case w_FORMS_11 => k_is)
    (case w_FORMS_12 => k_is)
    (case w_FORMS_13 => k_is)
    (case w_FORMS_14 => k_is)
    (case w_FORMS_15 => k_is)
    (case w_FORMS_16 => k_is)
    (case w_FORMS_17 => k_is)
    (case w_FORMS_18 => k_is)
    (case w_FORMS_19 => k_is)
    (case w_FORMS_20 => k_is)
    (case w_FORMS_21 => k_is)
    (case lo_FORMS => rfl)
    (case v_MOST_FIGURES => k_is)
    (case v_MOST_ROWS => k_is)
    (case v_NUMBERS => k_is)
    (case w_NUMBERS => k_is)
    (case w_NUMBERS_0 => k_is)
    (case w_NUMBERS_1 => k_is)
    (case w_NUMBERS_2 => k_is)
    (case w_NUMBERS_3 => k_is)
    (case lo_NUMBERS => rfl)
    (case v_RIGHTS => k_is)
    (case v_WORDS => k_is)
    (case w_WORDS => k_is)
    (case w_WORDS_0 => k_is)
    (case w_WORDS_1 => k_is)
    (case w_WORDS_2 => k_is)
    (case lo_WORDS => rfl)
    (case ac_NoRows => k_is)
    (case ac_NoText => k_is)
    (case ac_ReachError => k_is)
    (case xl_NoText => k_is)
    (case sa_NoText => k_is)
    (case eb_NoText => k_is)
    (case ty_NoText => k_is)
    (case kc_NoText => k_is)
    (case no_NoText => k_is)
    (case in_NoText => k_is)
    (case ti_NoText => k_is)
    (case li_NoText => k_is)
    (case ci_NoText => k_is)
    (case ki_NoText => k_is)
    (case xb_NoText_ReachError => k_is)
    (case xh_NoText_ReachError => k_is)
    (case xt_NoText_ReachError => k_is)
    (case xs_NoText_ReachError => k_is)
    (case ecg_NoText => k_is)
    (case eck_NoText => k_is)
    (case ecs_NoText => k_is)
    (case ecd_NoText => k_is)
    (case eca_NoText => k_is)
    (case ecn_NoText => k_is)
    (case ect_NoText => k_is)
    (case ecm_NoText => k_is)
    (case kt_NoText_NoText => kit_is)
    (case kt_NoText_NoRows => kit_is)
    (case ef_NoText_number => k_is)
