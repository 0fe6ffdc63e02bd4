import PyProof.Rows.All
import Wide.All
import OpenK.AllK
import Wide.FinOn
import HandS.ForMost
import HandS.ForExc
import HandS.IsInst
import HandS.ExcInit
import KE.KExcIs
import HandS.Conv
import HandS.TupLe
import PySem.Challenge.RW_sealedreach_k07_no_bounds
set_option Elab.async false
set_option linter.all false
set_option maxRecDepth 100000
set_option maxHeartbeats 4000000
namespace My
open PySem PySem.Spec PyProof.Rows L2
/-! ### calls of a def by its name alone -/
structure Cal (P : Program) (w : World) (K : PySem.W.Frag) (mg : Str → Option Value) (base : Heap) (x : Str) (k : Nat) (ps : List Str) (sp : Sp) : Prop where
  ex : ∃ (f : Addr) (fd : FuncData), FnOk P w K mg base CX0 k f fd ps sp ∧ mg x = some (.ref f) ∧ PySem.W.keepIn K (.ref f) = true ∧ Binds K fd ps []
theorem pe_cal {X : Cx} {x : Str} {k : Nat} {ps : List Str} {sp : Sp} {e : Expr} {es : List Expr} {t : TA} {p pos : Pos} (C : Cal X.prog X.w X.K X.mg X.base x k ps sp) (hr : Room k X.A)
    (ha : PA X (e :: es) t) (hg : Gl X x := by rfl) (hdb : (x == ("__debug__" : Str)) = false := by decide) (he : starEach (e :: es) X.env = (false, eval e X.env) :: starEach es X.env := by rfl) (hpl : (backTo pos (starEach es X.env)).any (·.1) = false := by rfl) :
    PE X (.Call (.Name x p) (e :: es) [] pos) (tCall sp [] E0 t) := by
  obtain ⟨f, fd, G, g, kp, b⟩ := C.ex
  exact pe_call G hr hg g kp b .nil pass0 ha hdb he hpl
/-! ### tests -/
theorem ifnd {p : Prop} [Decidable p] {A B : Prop} (h1 : ¬ p → A) (h2 : p → B) : if (!decide p) = true then A else B := by
  by_cases h : p
  · rw [decide_eq_true h]; exact h2 h
  · rw [decide_eq_false h]; exact h1 h
theorem ifnb {c : Bool} {A B : Prop} (h1 : c = false → A) (h2 : c = true → B) : if (!c) = true then A else B := by
  cases c with
  | true => exact h2 rfl
  | false => exact h1 rfl
theorem ifd {p : Prop} [Decidable p] {A B : Prop} (h1 : p → A) (h2 : ¬ p → B) : if decide p = true then A else B := by
  by_cases h : p
  · rw [if_pos (decide_eq_true h)]; exact h1 h
  · rw [decide_eq_false h, if_neg Bool.false_ne_true]; exact h2 h
theorem ifP {p : Prop} [Decidable p] {A B : Prop} (h : p) (h1 : A) : if decide p = true then A else B := by
  rw [if_pos (decide_eq_true h)]; exact h1
theorem ifN {p : Prop} [Decidable p] {A B : Prop} (h : ¬ p) (h1 : B) : if decide p = true then A else B := by
  rw [decide_eq_false h, if_neg Bool.false_ne_true]; exact h1
theorem ifb {c : Bool} {A B : Prop} (h1 : c = true → A) (h2 : c = false → B) : if c = true then A else B := by
  cases c with
  | true => rw [if_pos rfl]; exact h1 rfl
  | false => rw [if_neg Bool.false_ne_true]; exact h2 rfl
theorem ifbT {c : Bool} {A B : Prop} (h : c = true) (h1 : A) : if c = true then A else B := by rw [if_pos h]; exact h1
theorem ifbF {c : Bool} {A B : Prop} (h : c = false) (h1 : B) : if c = true then A else B := by rw [h, if_neg Bool.false_ne_true]; exact h1
/-! ### heaps -/
theorem viaS {H H' : Hp} {b : Addr} {o : HO} (s : Same H H') (h : H b = some o) : H' b = some o := s b o h
theorem same_new {H : Hp} {p : Addr} {o : HO} (h : H p = none) : Same H (upd H p o) := fun b x e => by
  rw [upd_ne (ne_of_none e h)]; exact e
/-- all but what stands at a is as it was -/
def But (a : Addr) (H H' : Hp) : Prop := ∀ b o, b ≠ a → H b = some o → H' b = some o
theorem viaB {H H' : Hp} {a b : Addr} {o : HO} (s : But a H H') (n : b ≠ a) (h : H b = some o) : H' b = some o := s b o n h
theorem But.refl (a : Addr) (H : Hp) : But a H H := fun _ _ _ h => h
theorem But.of {a : Addr} {H H' : Hp} (s : Same H H') : But a H H' := fun b o _ h => s b o h
theorem But.trans {a : Addr} {H H1 H2 : Hp} (s : But a H H1) (t : But a H1 H2) : But a H H2 := fun b o n h => t b o n (s b o n h)
theorem But.upd {a : Addr} {H H' : Hp} {o : HO} (s : But a H H') : But a H (upd H' a o) := fun b x n h => by
  rw [upd_ne n]; exact s b x n h
theorem But.new {a p : Addr} {H H' : Hp} {o : HO} (s : But a H H') (n : H' p = none) : But a H (L2.upd H' p o) := fun b x nb h => by
  have e := s b x nb h
  rw [upd_ne (ne_of_none e n)]; exact e
theorem sameN {p : Addr} {H H' : Hp} {o : HO} (s : Same H H') (n : H' p = none) : Same H (L2.upd H' p o) := fun b x h => by
  have e := s b x h
  rw [upd_ne (ne_of_none e n)]; exact e
theorem updK {H : Hp} {a b : Addr} {o u : HO} (n : b ≠ a) (h : H b = some u) : L2.upd H a o b = some u := by rw [upd_ne n]; exact h
/-- the pool of a law: a list of two numbers, the second small -/
def Pool (H : Hp) (a : Addr) (x y : Int) : Prop := H a = some (.lst [.int x, .int y]) ∧ 0 ≤ x ∧ 0 ≤ y ∧ y < 2147483647

local macro_rules | `(tactic| walk_at "ne") => `(tactic| first | assumption | (apply Ne.symm; assumption) | (refine ne_of_none ?_ (by assumption); walk_at "at") | (apply Ne.symm; refine ne_of_none ?_ (by assumption); walk_at "at"))
local macro_rules | `(tactic| walk_at "at") => `(tactic| first | assumption | exact upd_same | (refine updK ?n ?h; (case n => walk_at "ne"); (case h => walk_at "at")) | (refine viaS (by assumption) ?_; walk_at "at") | (refine viaB (by assumption) ?n ?h; (case n => walk_at "ne"); (case h => walk_at "at")))
local macro_rules | `(tactic| walk_at "side") => `(tactic| first | rfl | omega | decide | (refine ⟨by omega, by omega, ?_⟩; first | decide | omega) | (refine Or.inl ⟨by omega, by omega⟩) | (refine Or.inr ⟨by omega, by omega⟩) | exact ⟨by omega, by omega⟩)
/-- one step of a reading whose answers are plain -/
local macro_rules | `(tactic| walk_at "g1") => `(tactic| first | refine ⟨_, rfl, ?_⟩ | refine ⟨_, _, rfl, rfl, ?_⟩ | refine ⟨by walk_at "side", ?_⟩)
local macro_rules | `(tactic| walk_at "g") => `(tactic| repeat walk_at "g1")
theorem sz {n : Nat} (h : n ≤ 1000) : n ≤ sizeLine := Nat.le_of_lt (small1000 h)
theorem Pool.new {H : Hp} {p q : Addr} {x y : Int} {o : HO} (h : Pool H p x y) (n : H q = none) : Pool (upd H q o) p x y := ⟨by rw [upd_ne (ne_of_none h.1 n)]; exact h.1, h.2⟩
def rep (c L : Int) : Int := if (if c < L then c else L) > 1 then (if c < L then c else L) else 1
theorem rep_le {c L : Int} (h : 1 ≤ c) (h2 : c ≤ 63) : 1 ≤ rep c L ∧ rep c L ≤ c := by
  unfold rep
  by_cases d : c < L
  · simp only [if_pos d]; split <;> omega
  · simp only [if_neg d]; split <;> omega
theorem rep_lo {c L : Int} (h : 1 ≤ c) (h2 : c ≤ 63) : -(2 ^ 62) ≤ rep c L := by have := (rep_le (L := L) h h2).1; omega
theorem rep_hi {c L : Int} (h : 1 ≤ c) (h2 : c ≤ 63) : rep c L < 2 ^ 62 := by have := (rep_le (L := L) h h2).2; omega
theorem rep_i {c L : Int} {i : Nat} (h : 1 ≤ c) (h2 : c ≤ 63) (k : i < (rep c L).toNat) : i ≤ 63 := by have := (rep_le (L := L) h h2).2; omega
/-- a pool's own changes leave what stood ahead of it -/
theorem sameP {H H1 H2 H3 : Hp} {p : Addr} (s : Same H H1) (s1 : Same H1 H2) (n : H1 p = none) (b : But p H2 H3) : Same H H3 := fun c o e =>
  b c o (ne_of_none (s c o e) n) (s1 _ _ (s _ _ e))
theorem pick {xs : List V} {r : Int} (P : V → Prop) (h0 : 0 ≤ r) (h1 : r < (xs.length : Int)) (hP : ∀ v ∈ xs, P v) : ∃ v, atI xs r = some v ∧ P v := by
  obtain ⟨j, rfl⟩ : ∃ j : Nat, r = (j : Int) := ⟨r.toNat, by omega⟩
  have hj : j < xs.length := by omega
  exact ⟨xs[j], atI_nat (List.getElem?_eq_getElem hj), hP _ (List.getElem_mem hj)⟩
theorem cut63 {ns : List Int} (h : ns.length ≤ 63) : cutV (ns.map V.int) none (some 63) = ns.map V.int := by
  unfold cutV
  rw [show HT.sIx (ns.map V.int).length (ns.map V.int).length (some 63) = min 63 (ns.map V.int).length from HT.sIx_nat _ _ 63, HT.sIx_none]
  rw [List.drop_zero, Nat.sub_zero, List.length_map, Nat.min_eq_right h]
  exact List.take_of_length_le (by simp)
theorem qb {Q : VK} {H : Hp} {b b' : Bool} (q : Q (.bl b') H) (e : b = b') : Q (.bl b) H := e ▸ q
theorem qi {Q : VK} {H : Hp} {i j : Int} (q : Q (.int j) H) (e : i = j) : Q (.int i) H := e ▸ q

theorem b01 (k : Bool) : -(2 ^ 64) < (if k then (1 : Int) else 0) ∧ (if k then (1 : Int) else 0) < 2 ^ 64 := by cases k <;> decide
theorem mixb (z : Int) : -(2 ^ 64) < z % 2147483647 ∧ z % 2147483647 < 2 ^ 64 := by omega
theorem sizeb (c : Int) (k : Bool) : 0 ≤ (if c < 0 then -c else c) * (if k then (1 : Int) else 0) := by
  cases k
  · simp
  · simp; split <;> omega
/-! ### an error that is kept behind its suite -/
/-- at a: an exception of the class cls, its own dict at d -/
def kept (a : Addr) (cls : Value) (d : Option Addr) : HO := .ext fun h => ∃ oe, h.get? a = some oe ∧ Zc cls d oe ∧ ∃ vs, oe.data = .fields vs
theorem kept_ok {P : Program} {w : World} {H : Hp} {h : Heap} {a : Addr} {cls : Value} {d : Option Addr} {oe : Obj} {vs : Array Value} (e : h.get? a = some oe) (z : Zc cls d oe) (hd : oe.data = .fields vs) : ObjOk P w H h a (kept a cls d) :=
  ⟨⟨oe, e, z, vs, hd⟩, ⟨oe, e⟩, fun _ _ ⟨o, e1, r⟩ k => ⟨o, k o e1, r⟩⟩
theorem Inv.track {X : Cx} {pins : List (Addr × Obj)} {σ : L2.St} {H : Hp} {s : Shared} {a : Addr} {cls : Value} {d : Option Addr} {oe : Obj} {vs : Array Value} (I : Inv X pins σ H s)
    (e : s.heap.get? a = some oe) (z : Zc cls d oe) (hd : oe.data = .fields vs) (na : H a = none) (n0 : X.s_0.heap.get? a = none) (nL : a ≠ X.env.locals) (np : ∀ p ∈ X.pn ++ pins, p.1 ≠ a) :
    Inv X pins σ (upd H a (kept a cls d)) s := by
  refine ⟨I.ok, I.os, I.bare, ⟨I.base.keep, I.base.slot, fun b o q n hx => ?_, I.base.there, fun b xs q => ?_, fun b o u q => ?_, fun b ps q => ?_⟩, I.loc, I.cell, ?_, fun x c q => ?_, fun p hp => ?_, fun b o q => ?_, I.len⟩
  · have nb : b ≠ a := fun y => by rw [y, n0] at q; cases q
    rw [upd_ne nb]
    exact I.base.free b o q n hx
  · have q' := I.base.tups b xs q
    rw [upd_ne (ne_of_none q' na)]; exact q'
  · have q' := I.base.frzs b o u q
    rw [upd_ne (ne_of_none q' na)]; exact q'
  · obtain ⟨more, q'⟩ := I.base.tbls b ps q
    exact ⟨more, by rw [upd_ne (ne_of_none q' na)]; exact q'⟩
  · rw [upd_ne (Ne.symm nL)]; exact I.free
  · have nc : c ≠ a := fun y => by
      obtain ⟨v, o, e1, e2⟩ := I.cell x c q
      rw [y, e] at e1
      cases e1
      rw [hd] at e2
      cases e2
    rw [upd_ne nc]; exact I.freeC x c q
  · obtain ⟨p1, p2, p3, p4, p5⟩ := I.pin p hp
    exact ⟨p1, by rw [upd_ne (np p hp)]; exact p2, p3, p4, p5⟩
  · by_cases hb : b = a
    · subst hb
      rw [upd_same] at q
      cases q
      exact kept_ok e z hd
    · rw [upd_ne hb] at q
      exact (I.hok b o q).stay (fun _ _ _ y => y) (fun c hc => by rw [upd_ne (ne_of_none hc na)]; exact hc) fun c xs hc => by rw [upd_ne (ne_of_none hc na)]; exact hc
/-- what the clause 'except x as n' wishes of an exception of the body, where the error is kept -/
def wKp (K : PySem.W.Frag) (c : Value) (i : Nat) (ts : Addr → Value → Option Addr → TS) (Wout : WX) (D : Ends) : WX := fun cls d σ H =>
  ∃ b, PySem.W.exmOne K cls c = some b ∧ (b = true → ∀ a, H a = none → ts a cls d { nx := fun σ' H' => D.nx (σ'.set i none) (upd H' a (kept a cls d)), rt := fun v H' => D.rt v (upd H' a (kept a cls d)), bk := fun σ' H' => D.bk (σ'.set i none) (upd H' a (kept a cls d)), ct := fun σ' H' => D.ct (σ'.set i none) (upd H' a (kept a cls d)) } (σ.set i (some (.ref a))) H) ∧
    (b = false → Wout cls d σ H)
section
variable {X : Cx} {x n : Str} {c : Value} {i : Nat} {body suite : List Stmt} {b₀ : Stmt} {np pos pos' : Pos} {tb : WX → TS} {ts : Addr → Value → Option Addr → TS} {Wout : WX}
theorem ps_try_keep (hs : X.stack = X.env :: X.outer) (hex : X.ex = []) (hf : X.env.frame = some X.env.locals) (hN : X.N.Nodup) (hi : X.N[i]? = some n) (hln : X.env.kindOf n = some .local) (hc : Names X x c) (tk : Takes X Wout)
    (hb : ∀ (W : WX) (pn : List (Addr × Obj)) (xe : Value → Shared → Prop), Takes (X.tr pn xe) W → PassesOwn (model X.prog X.w) X.A X.env xe → PSs (X.tr pn xe) body (tb W))
    (hsu : ∀ (a : Addr) (oe : Obj) (cls : Value) (d : Option Addr) (pn : List (Addr × Obj)), Zc cls d oe → (∃ vs, oe.data = .fields vs) → PSs (X.suite a ((a, oe) :: pn)) (b₀ :: suite) (ts a cls d)) :
    PS X (.Try body [.ExceptHandler (some (.Name x np)) (some n) (b₀ :: suite) pos'] [] [] pos) (fun D σ H => tb (wKp X.K c i ts Wout D) D σ H) := by
  refine ⟨fun pins s σ H D I h => ?_⟩
  have ok := I.ok
  have hfr : X.A.frames = some (X.env :: X.outer) := by rw [ok.frames, hs]
  have hloc : Loc X.env.scope n := .inl hln
  refine wpAny_Try_except ?_
  refine wpAny_mono ((hb (wKp X.K c i ts Wout D) (X.pn ++ pins) (fun e s₁ => wpAny (model X.prog X.w) X.A (noteFrame e X.env) (fun _ s₂ => wpAny (model X.prog X.w) X.A (setFlight e none) (fun _ s₃ =>
    wpAny (model X.prog X.w) X.A (handleBy e X.env [.ExceptHandler (some (.Name x np)) (some n) (b₀ :: suite) pos']) (SP X pins D) X.xe s₃) X.xe s₂) X.xe s₁) (fun u s' xx => ?_) PassesOwn.looking).run [] s σ H D (I.toTry _) h) (fun f s1 hsp => ?_) (fun e s1 he => he)
  · obtain ⟨a, B, sI, pins', σ', H', cls, d, rfl, J', nb, up, sky, na, os, ag, b, hb1, hyes, hno⟩ := xx
    have J : Inv X pins σ' H' sI := J'.ofTry ok
    have sky' : Sky B (X.env :: X.outer) a (Zc cls d) X.env.locals s'.heap := by rw [← hs]; exact sky
    show wpAny (model X.prog X.w) X.A (noteFrame (.ref a) X.env) _ _ _
    refine Sky.land Zc.steady hfr hf sky' fun h3 fl3 up3 => ?_
    have J3 : Inv X pins σ' H' { s' with heap := h3 } := J.landed nb fl3.1 (up.trans up3) os ag
    obtain ⟨oe3, vs3, he3, hz3, hd3⟩ := fl3.there
    have notFr : ∀ {h : Heap} {o : Obj} {vs : Array Value}, h.FunFrames B (X.env :: X.outer) → h.get? a = some o → o.data = .fields vs → a ∉ frs (X.env :: X.outer) := fun {h o vs} ff e dd hm => by
      obtain ⟨_, o', e', hnf⟩ := ff.mem hm
      rw [e] at e'; cases e'
      exact hnf _ dd
    have nfr := notFr fl3.2.2.1 he3 hd3
    have nL : a ≠ X.env.locals := fun z => nfr (List.mem_filterMap.mpr ⟨X.env, List.mem_cons_self, by rw [hf, z]⟩)
    have nF : a ∉ X.fs := fun hm => by
      obtain ⟨e, he, q⟩ := List.mem_filterMap.mp hm
      exact nfr (List.mem_filterMap.mpr ⟨e, List.mem_cons_of_mem _ he, q⟩)
    have nI : sI.heap.get? a = none := by
      cases e : sI.heap.get? a with
      | none => rfl
      | some o =>
        have z := nb a o e (by rw [hs]; exact nfr)
        rw [fl3.2.1] at z
        cases z
    have n0 : X.s_0.heap.get? a = none := by
      cases e : X.s_0.heap.get? a with
      | none => rfl
      | some o =>
        obtain ⟨o', e'⟩ := J.base.there a o e (by rw [hex]; exact fun z => nomatch z)
        rw [nI] at e'
        cases e'
    have npin : ∀ p ∈ X.pn ++ pins, p.1 ≠ a := fun p hp z => by
      obtain ⟨e, _⟩ := J.pin p hp
      rw [z, nI] at e
      cases e
    have S3 := J3.suite he3 hd3 na nL nF
    refine wpAny_handleBy_cons (codeAny_handlers_test ?_) (by intro q; cases q)
    have LT : PySem.W.Looks (model X.prog X.w) h3 (typeOf (.ref a)) cls := fun A Q E s k q => wpAny_typeOf_ref (k _ _ he3) (by rw [hz3.1]; exact q)
    have LM := PySem.W.exm_one (M := model X.prog X.w) (J3.kIn) LT hb1
    have test : ∀ {Q : Value → Shared → Prop} {E : Value → Shared → Prop}, Q c { s' with heap := h3 } → wpAny (model X.prog X.w) (X.A.mark (some (.ref a))) (eval (.Name x np) X.env) Q E { s' with heap := h3 } := fun {Q E} q => by
      obtain ⟨hg, hdbg, hm | ⟨hm, hv, hnn⟩⟩ := hc
      · exact ld_glob (X := X.suite a ((a, oe3) :: (X.pn ++ pins))) S3 hg hm q hdbg
      · exact ld_blt (X := X.suite a ((a, oe3) :: (X.pn ++ pins))) S3 hg hm hv q hnn hdbg
    refine test (LM.here ?_)
    cases b with
    | true =>
      refine codeAny_handlers_suite_as ?_
      refine HandSPX.lands_againZ fl3 fun h4 fl4 up4 => ?_
      have J4 : Inv X pins σ' H' { s' with heap := h4 } := J.landed nb fl4.1 ((up.trans up3).trans up4) os ag
      obtain ⟨oe4, vs4, he4, hz4, hd4⟩ := fl4.there
      have S4 := J4.suite he4 hd4 na nL nF
      refine store_ok (X := X.suite a ((a, oe4) :: (X.pn ++ pins))) (v := .ref a) S4 hN hi hloc rfl (fun s5 S5 => ?_) (.inr hln)
      refine wpAny_mono ((hsu a oe4 cls d (X.pn ++ pins) hz4 ⟨_, hd4⟩).run [] s5 _ H' _ S5 (hyes rfl a na)) (fun f s6 hsp => ?_) (fun _ _ z => False.elim z)
      have end_ : ∀ {σ6 : L2.St} {H6 : Hp} {Q : Shared → Prop}, Inv (X.suite a ((a, oe4) :: (X.pn ++ pins))) [] σ6 H6 s6 → (∀ s7, Inv X pins (σ6.set i none) (upd H6 a (kept a cls d)) s7 → Q s7) →
          wpAny (model X.prog X.w) X.A (do bindName X.env n .none; unbindBehindTheSuite X.env n pos') (fun _ s7 => Q s7) X.xe s6 := fun {σ6 H6 Q} S6 hq => by
        obtain ⟨p1, p2, _⟩ := S6.pin (a, oe4) (List.mem_append.mpr (.inl List.mem_cons_self))
        exact gone_ok (My.Inv.track (S6.unsuite ok) p1 hz4 hd4 p2 n0 nL npin) hN hi hln hq
      cases f with
      | next =>
        obtain ⟨σ6, H6, S6, q6⟩ := hsp
        exact end_ S6 fun s7 J7 => ⟨_, _, J7, q6⟩
      | brk =>
        obtain ⟨σ6, H6, S6, q6⟩ := hsp
        exact end_ S6 fun s7 J7 => ⟨_, _, J7, q6⟩
      | cont =>
        obtain ⟨σ6, H6, S6, q6⟩ := hsp
        exact end_ S6 fun s7 J7 => ⟨_, _, J7, q6⟩
      | ret u =>
        obtain ⟨v6, σ6, H6, S6, r6, q6⟩ := hsp
        exact end_ S6 fun s7 J7 => ⟨_, _, _, J7, r6, q6⟩
    | false =>
      show wpAny _ X.A (handleBy (.ref a) X.env []) _ _ _
      refine wpAny_handleBy_nil ?_
      obtain ⟨k1, k2, k3, oe, vs, T, oT, ts', he, hz, hd, h1, hr⟩ := id fl3
      unfold PySem.passOn
      refine wpAny_bind (wpAny_field he hd h1 ?_)
      rw [if_neg (show ¬ ((Value.ref T == Value.none) = true) from by simp)]
      have fin : wpAny (model X.prog X.w) X.A (setFlight (.ref a) X.env.frame) (fun _ s4 => wpAny (model X.prog X.w) X.A (throw (.ref a) : Sem Flow) (SP X pins D) X.xe s4) X.xe { s' with heap := h3 } := by
        rw [hf]
        refine HandSPX.setFlight_upZ fl3 fun h4 hh4 up4 => wpAny_throw (tk _ _ ?_)
        exact ⟨a, B, sI, pins, σ', H', cls, d, rfl, J, nb, (up.trans up3).trans up4, .inr (.inr (by rw [hs]; exact hh4)), na, os, ag, hno rfl⟩
      first
        | exact wpAny_bind (wpAny_pure (wpAny_bind fin))
        | exact wpAny_bind fin
  · cases f with
    | next =>
      obtain ⟨σ', H', J', q⟩ := hsp
      exact wpAny_execs_nil ⟨σ', H', J'.ofTry ok, q⟩
    | brk =>
      obtain ⟨σ', H', J', q⟩ := hsp
      exact ⟨σ', H', J'.ofTry ok, q⟩
    | cont =>
      obtain ⟨σ', H', J', q⟩ := hsp
      exact ⟨σ', H', J'.ofTry ok, q⟩
    | ret u =>
      obtain ⟨v, σ', H', J', r, q⟩ := hsp
      exact ⟨v, σ', H', J'.ofTry ok, r, q⟩
end
/-! ### isinstance of a kept error -/
/-- what the written part says of the class of an error -/
structure ErrC (K : PySem.W.Frag) (C : Addr) : Prop where
  hg : PySem.W.findIn K (.ref C) "__getattribute__" = some (some (.builtin "BaseException.__getattribute__"))
  hk : PySem.W.findIn K (.ref C) "__getattr__" = some none
  hs : PySem.W.subIn K (.ref C) (.type "BaseException") = some true
  hd : PySem.W.hasDictIn K C = true
  ha : PySem.W.findIn K (.ref C) "__class__" = some (some (.builtin "object.__class__"))
  hn : PySem.W.specialIn K (.builtin "object.__class__") "__get__" = some (some (.builtin "getset_descriptor.__get__"))
  ht : PySem.W.takesIn K (.builtin "object.__class__") = some true
  hm : PySem.W.mroIn K C (.type "object") = some true
theorem kept_at {X : Cx} {pins : List (Addr × Obj)} {σ : L2.St} {H : Hp} {s : Shared} {a C d : Addr} {fs : List (Str × V)} (I : Inv X pins σ H s) (e : H a = some (kept a (.ref C) (some d))) (ed : H d = some (.xd fs)) :
    ∃ oe od, PySem.W.InstAt s.heap a oe C (some od) := by
  obtain ⟨⟨oe, h1, hz, vs, hd⟩, _⟩ := (show ObjOk X.prog X.w H s.heap a (kept a (.ref C) (some d)) from I.hok a _ e)
  obtain ⟨mA, hns, _⟩ := (show ObjOk X.prog X.w H s.heap d (.xd fs) from I.hok d _ ed)
  obtain ⟨od, _, _, ho, _⟩ := hns
  exact ⟨oe, od, h1, hz.1, by unfold PySem.W.notCls; rw [hd] <;> rfl, by rw [hz.2]; exact ho⟩
theorem ErrC.kit {K : PySem.W.Frag} {C x : Addr} {ox : Obj} {od : Option Obj} (E : ErrC K C) : PySem.W.KitX K (.ref x) (.ref C) (fun h => PySem.W.InstAt h x ox C od) :=
  PySem.W.kitx_exc (by obtain ⟨cd, hc, _⟩ := PySem.W.any_some E.hd; rw [hc]; rfl) E.hg E.hk E.hs E.ha E.hn E.ht E.hm
/-- isinstance(e, c), e a kept error of the class C -/
def rIsX (K : PySem.W.Frag) : List V → Hp → VK → Prop := fun xs H Q => ∃ (a C d : Addr) (fs : List (Str × V)) (c : V) (u : Value) (b : Bool), xs = [.ref a, c] ∧ H a = some (kept a (.ref C) (some d)) ∧ H d = some (.xd fs) ∧ ErrC K C ∧ ClsV c u ∧ PySem.W.kitOne K (.ref C) u = some b ∧ Q (.bl b) H
/-- isinstance(e, (c1, c2, ..)) -/
def rIsXT (K : PySem.W.Frag) : List V → Hp → VK → Prop := fun xs H Q => ∃ (a C d : Addr) (fs : List (Str × V)) (tp : Addr) (cs : List V) (us : List Value) (b : Bool), xs = [.ref a, .ref tp] ∧ H a = some (kept a (.ref C) (some d)) ∧ H d = some (.xd fs) ∧ ErrC K C ∧ H tp = some (.tup cs) ∧ Paired ClsV cs us ∧ PySem.W.kitAny K (.ref C) us = some b ∧ Q (.bl b) H
section
variable {X : Cx}
theorem call_isX : CallR X (.builtin "isinstance") (rIsX X.K) := by
  intro pins s σ H xs us Q I r h
  obtain ⟨a, C, d, fs, c, u, b, rfl, ea, ed, E, k, e, q⟩ := h
  obtain ⟨u1, u2, rfl, r1, r2⟩ := vals2 r
  have e2 := k.eq r2
  subst e2
  cases (show u1 = Value.ref a from r1)
  obtain ⟨oe, od, J⟩ := kept_at I ea ed
  exact PySem.W.kia_one E.kit I.kIn J e (fun z => nomatch z) fun tk => ⟨.bl b, H, I.tok tk, rfl, q⟩
theorem call_isXT : CallR X (.builtin "isinstance") (rIsXT X.K) := by
  intro pins s σ H xs us Q I r h
  obtain ⟨a, C, d, fs, tp, cs, ws, b, rfl, ea, ed, E, hT, k, e, q⟩ := h
  obtain ⟨u1, u2, rfl, r1, r2⟩ := vals2 r
  cases (show u1 = Value.ref a from r1)
  cases (show u2 = Value.ref tp from r2)
  obtain ⟨oe, od, J⟩ := kept_at I ea ed
  obtain ⟨_, its, rv, o, h1, h2, n, h3⟩ := (show ObjOk X.prog X.w H s.heap tp (.tup cs) from I.hok tp _ hT)
  have e3 := ClsV.all k rv
  subst e3
  obtain ⟨oc, od', dt, sl⟩ := o
  simp only at h2 h3
  subst h2 h3
  exact PySem.W.kia_tup E.kit I.kIn J h1 e (fun z => nomatch z) fun tk => ⟨.bl b, H, I.tok tk, rfl, q⟩
end
/-! ### defs that raise, called by name -/
structure CalX (P : Program) (w : World) (K : PySem.W.Frag) (mg : Str → Option Value) (base : Heap) (x : Str) (k : Nat) (ps : List Str) (sp : Sp) : Prop where
  ex : ∃ (f : Addr) (fd : FuncData), FnOk P w K mg base (L2.CX P w) k f fd ps sp ∧ mg x = some (.ref f) ∧ PySem.W.keepIn K (.ref f) = true ∧ Binds K fd ps []
theorem pe_calX {X : Cx} {x : Str} {k : Nat} {ps : List Str} {sp : Sp} {e : Expr} {es : List Expr} {t : TA} {W : WX} {p pos : Pos} (C : CalX X.prog X.w X.K X.mg X.base x k ps sp) (hr : Room k X.A) (tk : Takes X W)
    (ha : PA X (e :: es) t) (hg : Gl X x := by rfl) (hdb : (x == ("__debug__" : Str)) = false := by decide) (he : starEach (e :: es) X.env = (false, eval e X.env) :: starEach es X.env := by rfl) (hpl : (backTo pos (starEach es X.env)).any (·.1) = false := by rfl) :
    PE X (.Call (.Name x p) (e :: es) [] pos) (tCallS sp (WE W) t) := by
  obtain ⟨f, fd, G, g, kp, b⟩ := C.ex
  exact pe_callS G hr hg g kp b (fun σ => passAt tk σ) ha hdb he hpl
/-! ### own errors of one field -/
/-- what __init__ keeps -/
def spErr (C : Addr) (f : Str) : Sp := fun vs H Q _ => ∃ (a : Addr) (v : V), vs = [.ref a, v] ∧ H a = some (exo a C none) ∧ ∀ dx, H dx = none → dx ≠ a → Q .non (upd (upd H dx (exd dx [(f, v)])) a (exo a C (some dx)))
/-- the class of errors by the name x, its field f -/
structure ErrK (P : Program) (w : World) (K : PySem.W.Frag) (mg : Str → Option Value) (base : Heap) (x f : Str) : Prop where
  ex : ∃ (C fI : Addr) (fd : FuncData), PySem.W.nsIn K mainGlobals x = some (some (.ref C)) ∧ mg x = some (.ref C) ∧ OexC K C ∧ PySem.W.findIn K (.ref C) "__init__" = some (some (.ref fI)) ∧ PySem.W.typeIn K (.ref fI) = some (.type "function") ∧
    FnOk P w K mg base CX0 1 fI fd ["self", f] (spErr C f) ∧ Binds K fd ["self", f] []
/-- an error of the class by the name x may leave, its field f, all else as it was -/
def Lets (K : PySem.W.Frag) (x f : Str) (H : Hp) (E : XK) : Prop := ∀ (C d : Addr) (v : V) (H1 : Hp), PySem.W.nsIn K mainGlobals x = some (some (.ref C)) → Same H H1 → H1 d = none → E (.ref C) (some d) (upd H1 d (.xd [(f, v)]))
theorem Lets.same {K : PySem.W.Frag} {x f : Str} {H H2 : Hp} {E : XK} (l : Lets K x f H E) (s : Same H H2) : Lets K x f H2 E := fun C d v H1 h1 h2 h3 => l C d v H1 h1 (s.trans h2) h3
section
variable {X : Cx} {x f : Str} {e : Expr} {te : TE} {p pos : Pos}
theorem PE.more (he : PE X e te) : PE X e (fun σ H Q => ∃ Q1 : VK, te σ H Q1 ∧ ∀ v H1, Q1 v H1 → Q v H1) :=
  ⟨fun pins s σ H Q I ⟨Q1, h, k⟩ => wpAny_mono (he.run pins s σ H Q1 I h) (fun _ _ ⟨v, H', I', r, q⟩ => ⟨v, H', I', r, k _ _ q⟩) fun _ _ z => z⟩
theorem pmk_err (R : ErrK X.prog X.w X.K X.mg X.base x f) (hr : Room 2 X.A) (ha : PE X e te) (hg : Gl X x := by rfl) (hdb : (x == ("__debug__" : Str)) = false := by decide)
    (he : starEach (e :: []) X.env = (false, eval e X.env) :: starEach [] X.env := by rfl) (hpl : (backTo pos (starEach [] X.env)).any (·.1) = false := by rfl) :
    PMk X (.Call (.Name x p) [e] [] pos) (fun σ H Q => te σ H fun v H1 => ∀ C d, PySem.W.nsIn X.K mainGlobals x = some (some (.ref C)) → H1 d = none → Q (.ref C) (some d) (upd H1 d (.xd [(f, v)]))) := by
  obtain ⟨C, fI, fd, aC, gC, T, iC, tI, F, b⟩ := R.ex
  intro pins s σ H Q I h
  refine pmk_oex (dvs := []) (ds := []) T iC tI F hr b .nil pass0 hg gC (pa_cons (PE.more ha) pa_nil (hs := he)) hdb he hpl pins s σ H Q I ⟨_, h, fun v H1 q => ?_⟩
  refine ⟨(by show 1 ≤ 1000; decide), fun a na => ⟨a, v, rfl, upd_same, fun dx hd ne => ⟨rfl, dx, [(f, v)], upd_same, ?_, ?_, ?_⟩⟩⟩
  · rw [upd_ne ne, upd_same]
  · rw [upd_ne ne] at hd; exact hd
  · rw [upd_ne ne] at hd
    have z := q C dx aC hd
    have eq : upd (del (upd (upd (upd H1 a (exo a C none)) dx (exd dx [(f, v)])) a (exo a C (some dx))) a) dx (.xd [(f, v)]) = upd H1 dx (.xd [(f, v)]) := by
      funext c
      by_cases h1 : c = dx
      · rw [h1, upd_same, upd_same]
      · rw [upd_ne h1, upd_ne h1]
        by_cases h2 : c = a
        · rw [h2, del_same, na]
        · rw [del_ne h2, upd_ne h2, upd_ne h1, upd_ne h2]
    rw [eq]
    exact z
end
section
variable {X : Cx} {x : Str} {k : Nat} {ps : List Str} {sp : Sp} {e : Expr} {es : List Expr} {t : TA} {p pos : Pos}
/-- a def that may raise, called where it doesn't -/
theorem pe_calX0 (C : CalX X.prog X.w X.K X.mg X.base x k ps sp) (hr : Room k X.A)
    (ha : PA X (e :: es) t) (hg : Gl X x := by rfl) (hdb : (x == ("__debug__" : Str)) = false := by decide) (he : starEach (e :: es) X.env = (false, eval e X.env) :: starEach es X.env := by rfl) (hpl : (backTo pos (starEach es X.env)).any (·.1) = false := by rfl) :
    PE X (.Call (.Name x p) (e :: es) [] pos) (tCall sp [] E0 t) := by
  obtain ⟨f, fd, G, g, kp, b⟩ := C.ex
  exact pe_call G hr hg g kp b .nil passL ha hdb he hpl
end
theorem exm_own {K : PySem.W.Frag} {C : Addr} {cls : Value} {b : Bool} (h1 : PySem.W.subIn K (.ref C) (.type "BaseException") = some true) (hdct : PySem.W.hasDictIn K C = true) (ht : PySem.W.typeIn K (.ref C) = some (.type "type")) (h4 : PySem.W.subIn K cls (.ref C) = some b) : PySem.W.exmOne K cls (.ref C) = some b := by
  obtain ⟨cd, hc, _⟩ := PySem.W.any_some hdct
  have e1 : (PySem.W.subIn K (.ref C) (.type "BaseException") == some true) = true := by rw [h1] <;> rfl
  have e2 : ((PySem.W.clsIn K C).isSome && PySem.W.typeIn K (.ref C) == some (.type "type")) = true := by rw [hc, ht] <;> rfl
  show (if (PySem.W.subIn K (.ref C) (.type "BaseException") == some true) = true then (if ((PySem.W.clsIn K C).isSome && PySem.W.typeIn K (.ref C) == some (.type "type")) = true then PySem.W.subIn K cls (.ref C) else none) else none) = some b
  rw [if_pos e1, if_pos e2]
  exact h4
/-- one class stands by a name -/
theorem ns_one {K : PySem.W.Frag} {x : Str} {C D : Addr} (h : PySem.W.nsIn K mainGlobals x = some (some (.ref C))) (k : PySem.W.nsIn K mainGlobals x = some (some (.ref D))) : C = D := by
  rw [h] at k
  cases k
  rfl

/-! ### the mathematics of bounds -/
def Dd (lo hi : Int) (t : Nat) : Int := (hi - 1) / 2 ^ t - lo / 2 ^ t
def StepIs (lo hi : Int) (s : Nat) : Prop := s ≤ 8 ∧ Dd lo hi s ≤ 15 ∧ ∀ t, t < s → 15 < Dd lo hi t
def Bd (lo hi : Int) : Prop := 0 ≤ lo ∧ lo < hi ∧ hi ≤ 4096
def Ex (lo hi : Int) (s : Nat) : Prop := StepIs lo hi s ∧ lo / 2 ^ s * 2 ^ s = lo ∧ ((hi - 1) / 2 ^ s + 1) * 2 ^ s = hi
theorem le8 {s : Nat} (h : s ≤ 8) : s = 0 ∨ s = 1 ∨ s = 2 ∨ s = 3 ∨ s = 4 ∨ s = 5 ∨ s = 6 ∨ s = 7 ∨ s = 8 := by omega
theorem StepIs.uniq {lo hi : Int} {s t : Nat} (h : StepIs lo hi s) (k : StepIs lo hi t) : s = t := by
  rcases Nat.lt_trichotomy s t with c | c | c
  · have := k.2.2 s c; have := h.2.1; omega
  · exact c
  · have := h.2.2 t c; have := k.2.1; omega
theorem pow_pos2 (s : Nat) : (0 : Int) < 2 ^ s := Int.pow_pos (by decide)
theorem over_eq (lo hi : Int) (s : Nat) : (hi + 1 * 2 ^ s - 1) / 2 ^ s - lo / 2 ^ s = Dd lo hi s + 1 := by
  have e : hi + 1 * 2 ^ s - 1 = (hi - 1) + 1 * 2 ^ s := by omega
  rw [e, Int.add_mul_ediv_right _ _ (Int.ne_of_gt (pow_pos2 s))]
  unfold Dd
  omega
theorem first_over (lo hi : Int) (s : Nat) : lo / 2 ^ s + (Dd lo hi s + 1) = (hi - 1) / 2 ^ s + 1 := by
  unfold Dd; omega
theorem dd8 {lo hi : Int} (b : Bd lo hi) : Dd lo hi 8 ≤ 15 := by
  obtain ⟨h1, h2, h3⟩ := b
  unfold Dd
  have e : (2 : Int) ^ 8 = 256 := by decide
  rw [e]; omega
/-- going up from nought: below s all are too many -/
theorem lt8 {lo hi : Int} {s : Nat} (b : Bd lo hi) (h : 15 < Dd lo hi s) (u : s ≤ 8) : s < 8 := by
  rcases Nat.lt_or_ge s 8 with c | c
  · exact c
  · have e : s = 8 := by omega
    subst e
    have := dd8 b
    omega
/-- what a shift asks -/
theorem p8 {s : Nat} (h : s ≤ 8) : (2 : Int) ^ s ≤ 256 := by
  rcases le8 h with e | e | e | e | e | e | e | e | e <;> subst e <;> decide
theorem na {x : Int} (h0 : 0 ≤ x) (h1 : x ≤ 100000) : x.natAbs < 2 ^ 64 := by omega
theorem div_le' {x : Int} {s : Nat} (h0 : 0 ≤ x) : 0 ≤ x / 2 ^ s ∧ x / 2 ^ s ≤ x :=
  ⟨Int.ediv_nonneg h0 (Int.le_of_lt (pow_pos2 s)), Int.ediv_le_self _ h0⟩
theorem bc {lo hi : Int} {s : Nat} (b : Bd lo hi) (h : s ≤ 8) : CPow (lo / 2 ^ s) (s : Int) := by
  have := div_le' (s := s) b.1
  have := b.2
  exact ⟨by omega, by omega, na (by omega) (by omega)⟩
theorem bc2 {lo hi : Int} {s : Nat} (b : Bd lo hi) (h : StepIs lo hi s) : CPow (lo / 2 ^ s + (Dd lo hi s + 1)) (s : Int) := by
  have h8 := h.1
  obtain ⟨b1, b2, b3⟩ := b
  have := div_le' (s := s) (x := hi - 1) (by omega)
  rw [first_over]
  exact ⟨by omega, by omega, na (by omega) (by omega)⟩
theorem dd0 (n : Int) (s : Nat) : Dd 0 n s + 1 = (n - 1) / 2 ^ s + 1 := by
  unfold Dd; rw [Int.zero_ediv]; omega
theorem bc3 {n : Int} {s : Nat} (h : StepIs 0 n s) (b : Bd 0 n) : CPow (Dd 0 n s + 1) (s : Int) := by
  have h8 := h.1
  obtain ⟨b1, b2, b3⟩ := b
  have := div_le' (s := s) (x := n - 1) (by omega)
  rw [dd0]
  exact ⟨by omega, by omega, na (by omega) (by omega)⟩
def Can (lo hi : Int) (s : Nat) : Prop := lo % 2 ^ s = 0 ∧ 9 ≤ (hi - lo) / 2 ^ s
def GH (lo hi : Int) (s : Nat) : Prop := s ≤ 8 ∧ (s = 0 ∨ Can lo hi s) ∧ ∀ t, s < t → t ≤ 8 → ¬ Can lo hi t
def mn (lo hi : Int) (s : Nat) : Int := if (hi - lo) / 2 ^ s < 16 then (hi - lo) / 2 ^ s else 16
theorem cmn {lo hi : Int} {s : Nat} (b : Bd lo hi) (h : s ≤ 8) : CPow (mn lo hi s) (s : Int) := by
  obtain ⟨b1, b2, b3⟩ := b
  have := div_le' (s := s) (x := hi - lo) (by omega)
  unfold mn
  refine ⟨by omega, by omega, na ?_ ?_⟩ <;> split <;> omega
theorem bl_int {a b : Int} : decide (V.int a = V.int b) = decide (a = b) := by
  by_cases h : a = b
  · subst h; simp
  · have : ¬ (V.int a = V.int b) := fun e => h (V.int.inj e)
    simp [h, this]
theorem t2_eqv {a b c d : Int} : PyData.eqv (.tuple [.int a, .int b]) (.tuple [.int c, .int d]) = true ↔ a = c ∧ b = d := by
  simp [PyData.eqv, PyData.eqvAll]
theorem t2_no {a b c d : Int} (e : PyData.eqv (.tuple [.int a, .int b]) (.tuple [.int c, .int d]) = false) (h1 : a = c) (h2 : b = d) : False := by
  rw [t2_eqv.mpr ⟨h1, h2⟩] at e; cases e
theorem dp2 {K : PySem.W.Frag} {H : Hp} {p : Addr} {a b : Int} (h : H p = some (.tup [.int a, .int b])) : Dp K H (.ref p) (.tuple [.int a, .int b]) :=
  .tup (.of h) (.cons (.int a) (.cons (.int b) .nil))
theorem t3_eqv {a b x c d y : Int} : PyData.eqv (.tuple [.int a, .int b, .int x]) (.tuple [.int c, .int d, .int y]) = true ↔ a = c ∧ b = d ∧ x = y := by
  simp [PyData.eqv, PyData.eqvAll]
theorem dp3 {K : PySem.W.Frag} {H : Hp} {p : Addr} {a b c : Int} (h : H p = some (.tup [.int a, .int b, .int c])) : Dp K H (.ref p) (.tuple [.int a, .int b, .int c]) :=
  .tup (.of h) (.cons (.int a) (.cons (.int b) (.cons (.int c) .nil)))

/-! ### things of many kinds -/
inductive Thg (H : Hp) : V → Option Int → Prop where
  | int (i : Int) : Thg H (.int i) (some i)
  | bl (b : Bool) : Thg H (.bl b) none
  | non : Thg H .non none
  | str (x : Str) : Thg H (.str x) none
  | lst {a : Addr} {xs : List V} (e : H a = some (.lst xs)) : Thg H (.ref a) none
  | tup {a : Addr} {xs : List V} (e : H a = some (.tup xs)) : Thg H (.ref a) none
  | dK {a : Addr} {kvs : List (Key × V)} (e : H a = some (.dK kvs)) : Thg H (.ref a) none
theorem Thg.via {H H' : Hp} {v : V} {o : Option Int} (h : Thg H v o) (s : ∀ q x, v = .ref q → H q = some x → H' q = some x) : Thg H' v o := by
  cases h with
  | int i => exact .int i
  | bl b => exact .bl b
  | non => exact .non
  | str x => exact .str x
  | lst e => exact .lst (s _ _ rfl e)
  | tup e => exact .tup (s _ _ rfl e)
  | dK e => exact .dK (s _ _ rfl e)
theorem Thg.same {H H' : Hp} {v : V} {o : Option Int} (h : Thg H v o) (s : Same H H') : Thg H' v o := h.via fun q x _ e => s q x e
theorem Thg.but {H H' : Hp} {v : V} {o : Option Int} {a : Addr} (h : Thg H v o) (s : But a H H') (n : ∀ q, v = .ref q → q ≠ a) : Thg H' v o := h.via fun q x y e => s q x (n q y) e
theorem Thg.num {H : Hp} {v : V} {i : Int} (h : Thg H v (some i)) : v = .int i := by cases h; rfl
/-- a whole number from l to m -/
def wh (o : Option Int) (l m : Int) : Bool := match o with
  | some i => decide (l ≤ i) && decide (i ≤ m)
  | none => false
theorem wh_ok {o : Option Int} {l m : Int} (h : wh o l m = true) : ∃ i, o = some i ∧ l ≤ i ∧ i ≤ m := by
  cases o with
  | none => cases h
  | some i => simp [wh] at h; exact ⟨i, rfl, h⟩
/-- bounds -/
def are (o p : Option Int) : Bool := match o, p with
  | some a, some b => decide (0 ≤ a ∧ a < b ∧ b ≤ 4096)
  | _, _ => false
theorem are_ok {H : Hp} {x y : V} {o p : Option Int} (hx : Thg H x o) (hy : Thg H y p) (h : are o p = true) : ∃ lo hi, x = .int lo ∧ y = .int hi ∧ Bd lo hi := by
  cases o with
  | none => cases h
  | some a =>
    cases p with
    | none => cases h
    | some b =>
      have h' : 0 ≤ a ∧ a < b ∧ b ≤ 4096 := of_decide_eq_true h
      exact ⟨a, b, hx.num, hy.num, h'⟩
theorem are_wh {o p : Option Int} (h : wh o 0 4096 = false ∨ wh p 0 4096 = false) : are o p = false := by
  cases o with
  | none => rfl
  | some a =>
    cases p with
    | none => rfl
    | some b =>
      show decide (0 ≤ a ∧ a < b ∧ b ≤ 4096) = false
      rw [decide_eq_false_iff_not]
      simp [wh] at h
      omega
theorem are_int {a b : Int} : are (some a) (some b) = decide (0 ≤ a ∧ a < b ∧ b ≤ 4096) := rfl
/-! ### the law's own call, where nothing guards: repr of data -/
/-- a def's body, walked for one caller's state A alone -/
theorem body_at {P : Program} {w : World} {K : PySem.W.Frag} {mg : Str → Option Value} {base : Heap} {k : Nat} {f : Addr} {name qual : Str} {params : Arguments} {body : List Stmt} {scope : Scope}
    {dV kV doc pm cdv ct oc : Value} {an od : Option Addr} {osl : Array (Option Value)} {N ps : List Str} {A : Around} {outer : List Env} {s : Shared} {H : Hp} {args : Args} {us : List Value} {vs : List V} {Q : VK}
    (lk : K.lookup f = some ⟨oc, od, .func (PySem.W.fnOf name qual params body scope dV kV doc pm an cdv ct), osl⟩) (hcd : PySem.W.codeIn K cdv qual = true) (S : FnScope N ps scope) (hl : vs.length = ps.length)
    (hr : Room (k + 1) A) (e0 : Env0 P w K mg base A outer s H) (hb : BindsTo s (PySem.W.fnOf name qual params body scope dV kV doc pm an cdv ct) args (ps.zip us)) (rv : Vals vs us)
    (walk : ∃ t, PSs (cxOf CX0 P w K mg base N qual scope f cdv A outer s H (fun _ _ _ => False)) body t ∧ t { nx := fun _ H' => Q .non H', rt := Q } (start N vs) H) :
    codeAny (model P w) A (.call (.ref f) args) (CR CX0 outer P w H s Q fun _ _ _ => False) s := by
  have old : ∀ b o, base.get? b = some o → s.heap.get? b = some o := fun b o z => (e0.bs b o z).1
  have inK : K.In s.heap := e0.mod.kin.keeps old
  have slots : ∀ y ∈ ps.zip us, scope.names.lookup y.1 = some .local ∨ (scope.names.lookup y.1 = some .cell ∧ ((cellsFrom (s.heap.objs.size + 1) scope.names []).lookup y.1).isSome = true) := by
    rintro ⟨n, v⟩ hy
    cases S.par n (List.of_mem_zip hy).1 with
    | inl z => exact Or.inl z
    | inr z => exact Or.inr ⟨z, PySem.W.cellsFrom_some _ _ _ (Or.inl z)⟩
  obtain ⟨t, ht, hq⟩ := walk
  refine codeAny_call_function hr.depth (inK _ _ lk) rfl S.co S.gen rfl (PySem.W.codeRec_of inK hcd) (hb _ _ _ _ ?_)
  refine wpAny_newFunctionEnv_cells S.kind slots fun env eenv s1 ic => ?_
  subst eenv
  refine ⟨(e0.mod.nolimit.keeps old).keeps ic.toInCall.keep, codeAny_func ?_⟩
  have J := inv_start (CX := CX0) (E := fun _ _ _ => False) S hr.hd e0 hl rv ic
  refine wpAny_mono (ht.run [] s1 _ H _ J hq) (fun fl s' got => ?_) fun _ _ z => z
  match fl, got with
  | .ret u, ⟨v, σ', H', J', r', q'⟩ => exact ⟨v, H', J'.os, J'.bare, J'.base, J'.hok, r', q'⟩
  | .next, ⟨σ', H', J', q'⟩ => exact ⟨.non, H', J'.os, J'.bare, J'.base, J'.hok, rfl, q'⟩
  | .brk, ⟨_, _, _, q'⟩ => exact q'.elim
  | .cont, ⟨_, _, _, q'⟩ => exact q'.elim
/-- the script as the only thing that may be tracked -/
structure Scr (P : Program) (w : World) (K : PySem.W.Frag) (h : Heap) (a : Addr) (ns : List Int) (H : Hp) : Prop where
  only : Only H
  seq : SqL K H a (ns.map V.int)
  ok : HOk P w H h
  at' : ∀ b, H b ≠ none → b = a ∧ K.lookup a = none
theorem scr {P : Program} {w : World} {K : PySem.W.Frag} {h : Heap} {a : Addr} {vs : List Value} {ns : List Int} (KX : K.In h)
    (ha : h.get? a = some { cls := .type "list", data := .seq vs.toArray }) (hi : IntsAre vs ns) (hl : ns.length ≤ sizeLine) : ∃ H, Scr P w K h a ns H := by
  have rel := vals_ints hi
  have len : (ns.map V.int).length ≤ sizeLine := by rw [List.length_map]; exact hl
  by_cases inK : K.lookup a = none
  · refine ⟨upd (fun _ => none) a (.frz { cls := .type "list", data := .seq vs.toArray } (.lst (ns.map V.int))), fun b => ?_, .inl (.inr ⟨_, upd_same⟩), fun b o e => ?_, fun b e => ?_⟩
    · rcases Decidable.em (b = a) with z | z
      · subst z; exact .inr ⟨_, _, upd_same⟩
      · exact .inl (upd_ne z)
    · rcases Decidable.em (b = a) with z | z
      · subst z
        rw [upd_same] at e
        cases e
        exact ⟨ha, len, vs, _, rel, ha⟩
      · rw [upd_ne z] at e; cases e
    · rcases Decidable.em (b = a) with z | z
      · exact ⟨z, inK⟩
      · exact absurd (upd_ne z) e
  · obtain ⟨o, ho⟩ : ∃ o, K.lookup a = some o := by
      cases e : K.lookup a with
      | none => exact absurd e inK
      | some o => exact ⟨o, rfl⟩
    have same : o = { cls := .type "list", data := .seq vs.toArray } := Option.some.inj ((KX a o ho).symm.trans ha)
    subst same
    refine ⟨fun _ => none, fun _ => .inl rfl, .inr ⟨_, vs.toArray, 0, ho, rfl, rfl, rfl, ?_, ?_⟩, fun _ _ e => ?_, fun _ e => absurd rfl e⟩
    · have := hi.length
      show vs.toArray.size ≤ sizeLine
      rw [List.size_toArray]; omega
    · show Vals _ vs.toArray.toList
      exact rel
    · exact nomatch e
/-- the law's call from its promise, walked where nothing guards -/
theorem call_scr {P : Program} {w : World} {K : PySem.W.Frag} {mg mb : Str → Option Value} {fa a : Addr} {s₁ : Shared} {vs : List Value} {ns : List Int}
    (KX : K.In s₁.heap) (hns : s₁.heap.Ns mainGlobals mg) (hb : s₁.heap.Ns builtinsNs mb) (hbb : ∀ x : Str, x ≠ "__name__" → mb x = bootBuiltins x) (hlim : s₁.heap.NoLimit) (hg : s₁.gens = #[])
    (ha : s₁.heap.get? a = some { cls := .type "list", data := .seq vs.toArray }) (hi : IntsAre vs ns) (hl : ns.length ≤ sizeLine)
    (B : ∀ base H, K.In base → base.Ns mainGlobals mg → Env0 P w K mg base callerA [] s₁ H → SqL K H a (ns.map V.int) →
      codeAny (model P w) callerA (.call (.ref fa) ⟨[.ref a], []⟩) (CR CX0 [] P w H s₁ (fun v _ => v = .bl true) fun _ _ _ => False) s₁) :
    codeAny (model P w) callerA (.call (.ref fa) ⟨[.ref a], []⟩) (fun r s' => r = .ok (.ret (.bool true)) ∧ OldK s₁.heap s'.heap ∧ s'.os = s₁.os ∧ AllBare s'.gens) s₁ := by
  obtain ⟨H, C⟩ := scr (P := P) (w := w) KX ha hi hl
  -- what holds no list stands in the part that is not tracked
  have free : ∀ b o, s₁.heap.get? b = some o → (∀ n, o.data ≠ .seq vs.toArray n) → H b = none := fun b o e nd => by
    rcases Decidable.em (H b = none) with z | z
    · exact z
    · have q := (C.at' b z).1
      subst q
      rw [ha] at e
      cases e
      exact absurd rfl (nd _)
  have ns_of : ∀ L m, s₁.heap.Ns L m → (hidT s₁.heap H).Ns L m := fun L m n => by
    obtain ⟨o, es, ep, e, d, r⟩ := n
    exact ⟨o, es, ep, hidT_get e (free _ _ e fun k z => by rw [d] at z; cases z), d, r⟩
  have kin : K.In (hidT s₁.heap H) := fun b o e => by
    refine hidT_get (KX b o e) ?_
    rcases Decidable.em (H b = none) with z | z
    · exact z
    · obtain ⟨q, u⟩ := C.at' b z
      subst q
      rw [u] at e; cases e
  obtain ⟨mc, l1, l2⟩ := hlim
  have e0 : Env0 P w K mg (hidT s₁.heap H) callerA [] s₁ H :=
    ⟨rfl, ⟨kin, ns_of _ _ hns, ⟨mb, ns_of _ _ hb, hbb⟩, mc, ns_of _ _ l1, l2⟩, fun b o e => of_hidT e, Nat.le_of_eq (hidT_size _ _), trivial, fun b z => absurd (show b ∈ ([] : List Addr) from z) (by simp), C.ok, AllBare.of_eq hg⟩
  refine codeAny_mono (B _ H kin (ns_of _ _ hns) e0 C.seq) fun r s' got => ?_
  match r, got with
  | .ok (.ret u), ⟨v, H', os, bare, un, hok', rv, q⟩ =>
    cases q
    cases rv
    refine ⟨rfl, OldK.of_keep fun b o e => ?_, os, bare⟩
    rcases C.only b with z | ⟨ob, xs, z⟩
    · exact un.keep b o e z (fun y => nomatch y) (fun y => nomatch y)
    · have o1 := (C.ok b _ z).1
      have o2 := (hok' b _ (un.frzs b ob _ z)).1
      have := Option.some.inj (o1.symm.trans e)
      subst this
      exact o2
  | .ok .next, z => exact False.elim z
  | .ok .brk, z => exact False.elim z
  | .ok .cont, z => exact False.elim z
  | .error e, z => exact False.elim z
/-- the goal that the head leaves: the law's def walked for its caller's own state, in which nothing guards -/
theorem walk_scr {l : PySem.W.OpenLaw} {n : Nat} {q : Program} {loose : List Str} {XP : (Str → Option Value) → Heap → Prop} {YP : World → Heap → Prop} {d : DefRec} {K : Params → PySem.W.Frag}
    (hn : l.most = some n) (hn2 : n ≤ sizeLine) (hdf : d.params.defaults = []) (hY : ∀ (w : World) (h : Heap), YP w h → (K w.params).In h)
    (F : ∀ (w : World) (mg : Str → Option Value) (fa : Addr) (h : Heap), (K w.params).In h → h.Ns mainGlobals mg → mg d.name = some (.ref fa) →
      ∀ (base : Heap) (H : Hp) (s : Shared) (a : Addr) (ns : List Int), (K w.params).In base → base.Ns mainGlobals mg → Env0 l.prog w (K w.params) mg base callerA [] s H → SqL (K w.params) H a (ns.map V.int) → ns.length ≤ n →
        codeAny (model l.prog w) callerA (.call (.ref fa) ⟨[.ref a], []⟩) (CR CX0 [] l.prog w H s (fun v _ => v = .bl true) fun _ _ _ => False) s) :
    PySem.W.WalkO q loose XP YP l.row.toRowW d [] (fun f vs => PySem.call f vs) := by
  refine Att.attach_call hn hdf fun w s₀ s₁ mg mb fa o pm cd doc a vs ns G Y _ _ _ hmg hobj hints hlen hg => ?_
  have KX := hY w _ Y
  exact call_scr KX G.T.g G.T.b G.T.builtins G.T.nolimit hg hobj hints (Nat.le_trans hlen hn2) fun base H kb nb e0 hS => F w mg fa _ KX G.T.g hmg base H s₁ a ns kb nb e0 hS hlen
theorem caller_guards : callerA.guards = some [] := by first | rfl | decide
/-- repr of data, where nothing guards -/
def rRepr (K : PySem.W.Frag) : List V → Hp → VK → Prop := fun xs H Q => ∃ (x : V) (d : PyData), xs = [x] ∧ Dp K H x d ∧ d.showable = true ∧ d.hasDict = false ∧ d.depth ≤ 50 ∧ d.shown.length ≤ sizeLine ∧ Q (.str d.shown) H
theorem call_reprD {X : Cx} (gd : X.A.guards = some []) (hu : X.A.units + 64 < cLine) : CallR X (.builtin "repr") (rRepr X.K) := by
  intro pins s σ H xs us Q I r h
  obtain ⟨x, d, rfl, hd, hs, hnd, hdp, hz, hq⟩ := h
  obtain ⟨u, rfl, ru⟩ := r.one
  obtain ⟨as, rd⟩ := Dp.reads I d x u hd ru
  have byRef : ∀ a, u = .ref a → wpAny (model X.prog X.w) X.A (call (.builtin "repr") [u]) (EP X pins σ Q) X.xe s := fun a e => by
    subst e
    exact repr_of_reads' rd hs (fun z => by rw [hnd] at z; cases z) gd (by omega) (fun _ _ z => z) (fun h' v tk k => ⟨.str d.shown, H, I.kept (t' := tk) k, ⟨_, rfl⟩, hq⟩) hz
  cases hd with
  | non =>
    cases ru
    exact PySem.P.repr_of_none ⟨.str "None", H, I.tok _, ⟨_, rfl⟩, hq⟩
  | bl b =>
    cases ru
    exact PySem.P.repr_of_bool ⟨.str (if b then "True" else "False"), H, I.tok _, ⟨_, rfl⟩, hq⟩
  | int i =>
    obtain ⟨t, rfl⟩ := ru
    exact PySem.P.repr_of_int (of_decide_eq_true hs) ⟨.str (toString i), H, I.tok _, ⟨_, rfl⟩, hq⟩
  | str z =>
    obtain ⟨t, rfl⟩ := ru
    exact PySem.P.repr_of_str ⟨.str (reprText z), H, I.tok _, ⟨_, rfl⟩, hq⟩ hz
  | lst _ _ => exact byRef _ ru
  | tup _ _ => exact byRef _ ru

def okd (dr : Int) (o p : Option Int) : Bool := if dr = 4 then are (some 0) o else are o p
theorem kit3 {K : PySem.W.Frag} {t a b c : Value} (h1 : PySem.W.kitOne K t a = some false) (h2 : PySem.W.kitOne K t b = some false) (h3 : PySem.W.kitOne K t c = some false) : PySem.W.kitAny K t [a, b, c] = some false :=
  kitAny_cons h1 (fun _ => kitAny_cons h2 (fun _ => kitAny_cons h3 (fun _ => kitAny_nil) (fun z => nomatch z)) (fun z => nomatch z)) (fun z => nomatch z)
theorem dr5 {d : Int} (h0 : 0 ≤ d) (h4 : d ≤ 4) : d = 0 ∨ d = 1 ∨ d = 2 ∨ d = 3 ∨ d = 4 := by omega

theorem i0 {i : Nat} : V.int (0 + (i : Int)) = V.int i := by rw [Int.zero_add]
theorem with_finB {A P : Bool → Prop} {G : Prop} (h : ∀ b, A b → P b) (k : (∀ b, A b → P b) → G) : G := k h
theorem are0 (o : Option Int) : are (some 0) o = wh o 1 4096 := by
  cases o with
  | none => rfl
  | some n =>
    show decide (0 ≤ (0 : Int) ∧ 0 < n ∧ n ≤ 4096) = (decide (1 ≤ n) && decide (n ≤ 4096))
    by_cases c : 1 ≤ n
    · have c2 : 0 < n := by omega
      simp [c, c2]
    · have c2 : ¬ 0 < n := by omega
      simp [c, c2]
theorem okd_lo {m : Nat} (h : m < 4) (o p : Option Int) : okd (0 + (m : Int)) o p = are o p := by
  unfold okd
  rw [if_neg (by omega)]
theorem same_pool {H H1 H2 : Hp} {p : Addr} (s : Same H H1) (n : H p = none) (b : But p H1 H2) : Same H H2 := fun q o e => b q o (ne_of_none e n) (s q o e)

def topS (i : Nat) : Stmt := PySem.Challenge.pw_sealedreach_k07_no_bounds.main.body.getD i (.Pass ⟨0, 0, 0, 0⟩)
abbrev s_is_whole : Stmt := topS 7
abbrev s_are_bounds : Stmt := topS 13
abbrev s_look_at_bounds : Stmt := topS 14
abbrev s__steps_over : Stmt := topS 20
abbrev s_in_bits : Stmt := topS 17
abbrev s_least_bounds : Stmt := topS 16
abbrev s_is_exact : Stmt := topS 15
abbrev s_room_of : Stmt := topS 18
abbrev s__can_begin : Stmt := topS 21
abbrev s_greatest_high : Stmt := topS 19
abbrev s__law_take : Stmt := topS 24
abbrev s__law_pool : Stmt := topS 23
abbrev s__law_odd : Stmt := topS 25
abbrev s__law_is_number : Stmt := topS 26
abbrev s__law_said : Stmt := topS 27
abbrev s_law : Stmt := topS 28
theorem sc_is_whole : FnScope ["thing", "least", "most"] ["thing", "least", "most"] (defScope s_is_whole) := ⟨rfl, rfl, rfl, by decide +kernel, rfl, by decide +kernel, by decide +kernel⟩
theorem sc_are_bounds : FnScope ["low", "high"] ["low", "high"] (defScope s_are_bounds) := ⟨rfl, rfl, rfl, by decide +kernel, rfl, by decide +kernel, by decide +kernel⟩
theorem sc_look_at_bounds : FnScope ["low", "high"] ["low", "high"] (defScope s_look_at_bounds) := ⟨rfl, rfl, rfl, by decide +kernel, rfl, by decide +kernel, by decide +kernel⟩
theorem sc__steps_over : FnScope ["low", "high", "step", "first", "behind"] ["low", "high", "step"] (defScope s__steps_over) := ⟨rfl, rfl, rfl, by decide +kernel, rfl, by decide +kernel, by decide +kernel⟩
theorem sc_in_bits : FnScope ["low", "high", "step"] ["low", "high"] (defScope s_in_bits) := ⟨rfl, rfl, rfl, by decide +kernel, rfl, by decide +kernel, by decide +kernel⟩
theorem sc_least_bounds : FnScope ["low", "high", "step", "first", "count"] ["low", "high"] (defScope s_least_bounds) := ⟨rfl, rfl, rfl, by decide +kernel, rfl, by decide +kernel, by decide +kernel⟩
theorem sc_is_exact : FnScope ["low", "high"] ["low", "high"] (defScope s_is_exact) := ⟨rfl, rfl, rfl, by decide +kernel, rfl, by decide +kernel, by decide +kernel⟩
theorem sc_room_of : FnScope ["many", "step", "_", "count"] ["many"] (defScope s_room_of) := ⟨rfl, rfl, rfl, by decide +kernel, rfl, by decide +kernel, by decide +kernel⟩
theorem sc__can_begin : FnScope ["low", "high", "step"] ["low", "high", "step"] (defScope s__can_begin) := ⟨rfl, rfl, rfl, by decide +kernel, rfl, by decide +kernel, by decide +kernel⟩
theorem sc_greatest_high : FnScope ["low", "high", "step"] ["low", "high"] (defScope s_greatest_high) := ⟨rfl, rfl, rfl, by decide +kernel, rfl, by decide +kernel, by decide +kernel⟩
theorem sc__law_take : FnScope ["_law_pool_here", "_law_many", "_law_found"] ["_law_pool_here", "_law_many"] (defScope s__law_take) := ⟨rfl, rfl, rfl, by decide +kernel, rfl, by decide +kernel, by decide +kernel⟩
theorem sc__law_pool : FnScope ["_law_script", "_law_k", "_law_cell", "_law_size", "_law_mixed"] ["_law_script", "_law_k"] (defScope s__law_pool) := ⟨rfl, rfl, rfl, by decide +kernel, rfl, by decide +kernel, by decide +kernel⟩
theorem sc__law_odd : FnScope ["_law_pool_here", "_law_some"] ["_law_pool_here"] (defScope s__law_odd) := ⟨rfl, rfl, rfl, by decide +kernel, rfl, by decide +kernel, by decide +kernel⟩
theorem sc__law_is_number : FnScope ["_law_thing", "_law_least", "_law_most"] ["_law_thing", "_law_least", "_law_most"] (defScope s__law_is_number) := ⟨rfl, rfl, rfl, by decide +kernel, rfl, by decide +kernel, by decide +kernel⟩
theorem sc__law_said : FnScope ["_law_door", "_law_low", "_law_high", "_law_kept", "e"] ["_law_door", "_law_low", "_law_high"] (defScope s__law_said) := ⟨rfl, rfl, rfl, by decide +kernel, rfl, by decide +kernel, by decide +kernel⟩
theorem sc_law : FnScope ["_law_script", "_law_k", "_law_pool_here", "_law_turn", "_law_low", "_law_high", "_law_are", "_law_door"] ["_law_script"] (defScope s_law) := ⟨rfl, rfl, rfl, by decide +kernel, rfl, by decide +kernel, by decide +kernel⟩
abbrev si_NoBounds : Stmt := inClass (topS 3) 0
theorem sci_NoBounds : FnScope ["self", "text"] ["self", "text"] (defScope si_NoBounds) := ⟨rfl, rfl, rfl, by decide +kernel, rfl, by decide +kernel, by decide +kernel⟩
structure Txt (K : PySem.W.Frag) (mg : Str → Option Value) : Prop where
  z_ValueError : mg "ValueError" = none
  z_abs : mg "abs" = none
  z_bool : mg "bool" = none
  z_int : mg "int" = none
  z_isinstance : mg "isinstance" = none
  z_len : mg "len" = none
  z_max : mg "max" = none
  z_min : mg "min" = none
  z_range : mg "range" = none
  z_sum : mg "sum" = none
  c_CELLS : ∃ t, mg "CELLS" = some (.int 4096 t)
  c_LEAST_COUNT : ∃ t, mg "LEAST_COUNT" = some (.int 9 t)
  c_TOP_COUNT : ∃ t, mg "TOP_COUNT" = some (.int 16 t)
  c_TOP_STEP : ∃ t, mg "TOP_STEP" = some (.int 8 t)
  k_NoAddress : ∃ C, mg "NoAddress" = some (.ref C) ∧ PySem.W.nsIn K mainGlobals "NoAddress" = some (some (.ref C))
  k_NoBounds : ∃ C, mg "NoBounds" = some (.ref C) ∧ PySem.W.nsIn K mainGlobals "NoBounds" = some (some (.ref C))
  k_NoFields : ∃ C, mg "NoFields" = some (.ref C) ∧ PySem.W.nsIn K mainGlobals "NoFields" = some (some (.ref C))
  k_NoNumber : ∃ C, mg "NoNumber" = some (.ref C) ∧ PySem.W.nsIn K mainGlobals "NoNumber" = some (some (.ref C))
  k_ReachError : ∃ C, mg "ReachError" = some (.ref C) ∧ PySem.W.nsIn K mainGlobals "ReachError" = some (some (.ref C))
  x_NoBounds_ReachError : ∀ C D, PySem.W.nsIn K mainGlobals "NoBounds" = some (some (.ref C)) → PySem.W.nsIn K mainGlobals "ReachError" = some (some (.ref D)) → PySem.W.exmOne K (.ref C) (.ref D) = some true
  e_NoBounds : ∀ C, PySem.W.nsIn K mainGlobals "NoBounds" = some (some (.ref C)) → ErrC K C
  i_NoBounds_NoBounds : ∀ C D, PySem.W.nsIn K mainGlobals "NoBounds" = some (some (.ref C)) → PySem.W.nsIn K mainGlobals "NoBounds" = some (some (.ref D)) → PySem.W.kitOne K (.ref C) (.ref D) = some true
  i_NoBounds_NoAddress : ∀ C D, PySem.W.nsIn K mainGlobals "NoBounds" = some (some (.ref C)) → PySem.W.nsIn K mainGlobals "NoAddress" = some (some (.ref D)) → PySem.W.kitOne K (.ref C) (.ref D) = some false
  i_NoBounds_NoFields : ∀ C D, PySem.W.nsIn K mainGlobals "NoBounds" = some (some (.ref C)) → PySem.W.nsIn K mainGlobals "NoFields" = some (some (.ref D)) → PySem.W.kitOne K (.ref C) (.ref D) = some false
  i_NoBounds_NoNumber : ∀ C D, PySem.W.nsIn K mainGlobals "NoBounds" = some (some (.ref C)) → PySem.W.nsIn K mainGlobals "NoNumber" = some (some (.ref D)) → PySem.W.kitOne K (.ref C) (.ref D) = some false
  i_NoBounds_ValueError : ∀ C, PySem.W.nsIn K mainGlobals "NoBounds" = some (some (.ref C)) → PySem.W.kitOne K (.ref C) (.type "ValueError") = some true
section
variable {P : Program} {w : World} {K : PySem.W.Frag} {mg : Str → Option Value} {base : Heap}
theorem oki_NoBounds {f C : Addr} {fd : FuncData} (F : Fun K "__init__" "NoBounds.__init__" si_NoBounds f fd) (T : OexC K C) (hno : PySem.W.findIn K (.ref C) "text" = some none) : FnOk P w K mg base CX0 1 f fd ["self", "text"] (spErr C "text") := by
  refine F.ok sci_NoBounds (fun vs H Q E h => ?_) (fun cdv A outer s H vs Q E hr h => ?_)
  · obtain ⟨a, v, rfl, h1, q⟩ := h; rfl
  · obtain ⟨a, v, rfl, h1, q⟩ := h
    refine ⟨_, pss_one (ps_ost (pv 0) (pv 1)), ?_⟩
    exact ⟨_, rfl, _, rfl, a, C, rfl, T, hno, .inl ⟨h1, fun dx h2 h3 => q dx h2 h3⟩⟩

def sp_is_whole (K : PySem.W.Frag) : Sp := fun vs H Q _ => ∃ x o l m, vs = [x, .int l, .int m] ∧ Thg H x o ∧ Q (.bl (wh o l m)) H
theorem ok_is_whole {f : Addr} {fd : FuncData} (F : Fun K "is_whole" "is_whole" s_is_whole f fd) (T : Txt K mg) : FnOk P w K mg base CX0 1 f fd ["thing", "least", "most"] (sp_is_whole K) := by
  refine F.ok sc_is_whole (fun vs H Q E h => ?_) (fun cdv A outer s H vs Q E hr h => ?_)
  · obtain ⟨x, o, l, m, rfl, hx, q⟩ := h; rfl
  · obtain ⟨x, o, l, m, rfl, hx, q⟩ := h
    refine ⟨_, (pss_one (ps_ret (pe_and (pe_callB call_isi (by rfl) T.z_isinstance (by decide +kernel) (pa_cons (pv 0) (pa_cons (pe_bltn (v := .ty "int") (by rfl) T.z_int (by decide +kernel) rfl) pa_nil))) (pe_and (pe_not (pe_callB call_isi (by rfl) T.z_isinstance (by decide +kernel) (pa_cons (pv 0) (pa_cons (pe_bltn (v := .ty "bool") (by rfl) T.z_bool (by decide +kernel) rfl) pa_nil)))) (pe_one (pe_chain op_le op_le (pv 1) (pv 0) (pv 2))))))), ?_⟩
    cases hx with
    | int n =>
      refine ⟨_, rfl, _, _, _, _, true, rfl, .ty "int", .base (.int n), kit_ty (by decide +kernel), true, rfl, iteT ?_⟩
      refine ⟨_, rfl, _, _, _, _, false, rfl, .ty "bool", .base (.int n), kit_ty (by decide +kernel), false, rfl, true, rfl, iteT ?_⟩
      refine ⟨_, rfl, _, rfl, _, _, rfl, rfl, _, rfl, ifd (fun h1 => ?_) (fun h1 => ?_)⟩
      · refine ⟨_, rfl, _, _, rfl, rfl, ?_⟩
        have e : wh (some n) l m = decide (n ≤ m) := by simp [wh, h1]
        rw [e] at q; exact q
      · have e : wh (some n) l m = false := by simp [wh, h1]
        rw [e] at q; exact q
    | bl b =>
      refine ⟨_, rfl, _, _, _, _, true, rfl, .ty "int", .base (.bl b), kit_ty (by decide +kernel), true, rfl, iteT ?_⟩
      refine ⟨_, rfl, _, _, _, _, true, rfl, .ty "bool", .base (.bl b), kit_ty (by decide +kernel), true, rfl, false, rfl, iteF ?_⟩
      exact q
    | non => refine ⟨_, rfl, _, _, _, _, false, rfl, .ty "int", .base .non, kit_ty (by decide +kernel), false, rfl, iteF ?_⟩; exact q
    | str x => refine ⟨_, rfl, _, _, _, _, false, rfl, .ty "int", .base (.str x), kit_ty (by decide +kernel), false, rfl, iteF ?_⟩; exact q
    | lst e => refine ⟨_, rfl, _, _, _, _, false, rfl, .ty "int", .base (.lst e), kit_ty (by decide +kernel), false, rfl, iteF ?_⟩; exact q
    | tup e => refine ⟨_, rfl, _, _, _, _, false, rfl, .ty "int", .base (.tup e), kit_ty (by decide +kernel), false, rfl, iteF ?_⟩; exact q
    | dK e => refine ⟨_, rfl, _, _, _, _, false, rfl, .ty "int", .base (.dK e), kit_ty (by decide +kernel), false, rfl, iteF ?_⟩; exact q

def sp_are_bounds (K : PySem.W.Frag) : Sp := fun vs H Q _ => ∃ x y o p, vs = [x, y] ∧ Thg H x o ∧ Thg H y p ∧ Q (.bl (are o p)) H
theorem ok_are_bounds {f : Addr} {fd : FuncData} (F : Fun K "are_bounds" "are_bounds" s_are_bounds f fd) (T : Txt K mg) (C_is_whole : Cal P w K mg base "is_whole" 1 ["thing", "least", "most"] (sp_is_whole K)) : FnOk P w K mg base CX0 2 f fd ["low", "high"] (sp_are_bounds K) := by
  obtain ⟨t_CELLS, hc_CELLS⟩ := T.c_CELLS
  refine F.ok sc_are_bounds (fun vs H Q E h => ?_) (fun cdv A outer s H vs Q E hr h => ?_)
  · obtain ⟨x, y, o, p, rfl, hx, hy, q⟩ := h; rfl
  · obtain ⟨x, y, o, p, rfl, hx, hy, q⟩ := h
    refine ⟨_, (pss_one (ps_ret (pe_and (pe_cal C_is_whole (hr.mono (by decide)) (pa_cons (pv 0) (pa_cons pe_int (pa_cons (pe_glob (v := .int 4096) (by rfl) hc_CELLS ⟨_, rfl⟩) pa_nil)))) (pe_and (pe_cal C_is_whole (hr.mono (by decide)) (pa_cons (pv 1) (pa_cons pe_int (pa_cons (pe_glob (v := .int 4096) (by rfl) hc_CELLS ⟨_, rfl⟩) pa_nil)))) (pe_one (pe_cmpR op_lt (pv 0) (pv 1) (nomark _))))))), ?_⟩
    refine ⟨_, rfl, _, _, _, _, rfl, hx, _, rfl, ifb (fun e => ?_) (fun e => ?_)⟩
    · obtain ⟨a, rfl, a1, a2⟩ := wh_ok e
      cases hx.num
      refine ⟨_, rfl, _, _, _, _, rfl, hy, _, rfl, ifb (fun e2 => ?_) (fun e2 => ?_)⟩
      · obtain ⟨b, rfl, b1, b2⟩ := wh_ok e2
        cases hy.num
        refine ⟨_, rfl, _, rfl, _, _, rfl, rfl, ?_⟩
        have z : are (some a) (some b) = decide (a < b) := by
          rw [are_int]
          by_cases c : a < b
          · simp [c, a1, b2]
          · simp [c]
        rw [z] at q
        exact q
      · rw [are_wh (.inr e2)] at q
        exact q
    · rw [are_wh (.inl e)] at q
      exact q

def sp_look_at_bounds (K : PySem.W.Frag) : Sp := fun vs H Q E => ∃ x y o p, vs = [x, y] ∧ Thg H x o ∧ Thg H y p ∧ (are o p = true → Q .non H) ∧ (are o p = false → Lets K "NoBounds" "text" H E)
theorem ok_look_at_bounds {f : Addr} {fd : FuncData} (F : Fun K "look_at_bounds" "look_at_bounds" s_look_at_bounds f fd) (T : Txt K mg) (C_are_bounds : Cal P w K mg base "are_bounds" 2 ["low", "high"] (sp_are_bounds K)) (R_NoBounds : ErrK P w K mg base "NoBounds" "text") : FnOk P w K mg base (L2.CX P w) 3 f fd ["low", "high"] (sp_look_at_bounds K) := by
  refine F.okX sc_look_at_bounds (fun vs H Q E h => ?_) (fun cdv A outer s H vs Q E hr h => ?_)
  · obtain ⟨x, y, o, p, rfl, hx, hy, q, bad⟩ := h; rfl
  · obtain ⟨x, y, o, p, rfl, hx, hy, q, bad⟩ := h
    refine ⟨_, (pss_one (ps_if (pt_not (pt_val (pe_cal C_are_bounds (hr.mono (by decide)) (pa_cons (pv 0) (pa_cons (pv 1) pa_nil))))) (pss_one (ps_raise rfl (takes_of rfl rfl rfl rfl) (by exact (pmk_err R_NoBounds (hr.mono (by decide)) pe_str)))) pss_nil)), ?_⟩
    refine ⟨_, rfl, _, rfl, x, y, o, p, rfl, hx, hy, _, rfl, ifnb (fun e => ?_) (fun e => ?_)⟩
    · exact fun C d hC hd => bad e C d _ H hC (Same.refl _) hd
    · exact q e

def sp__steps_over (K : PySem.W.Frag) : Sp := fun vs H Q _ => ∃ (lo hi : Int) (s : Nat), vs = [.int lo, .int hi, .int s] ∧ s ≤ 1000 ∧ Q (.int (Dd lo hi s + 1)) H
theorem ok__steps_over {f : Addr} {fd : FuncData} (F : Fun K "_steps_over" "_steps_over" s__steps_over f fd) (T : Txt K mg) : FnOk P w K mg base CX0 1 f fd ["low", "high", "step"] (sp__steps_over K) := by
  refine F.ok sc__steps_over (fun vs H Q E h => ?_) (fun cdv A outer s H vs Q E hr h => ?_)
  · obtain ⟨lo, hi, s, rfl, hs, q⟩ := h; rfl
  · obtain ⟨lo, hi, s, rfl, hs, q⟩ := h
    refine ⟨_, (pss_cons (ps_set (i := 3) sc__steps_over.nd rfl (.inl rfl) (pe_op op_shr (pv 0) (pv 2)))
      (pss_cons (ps_set (i := 4) sc__steps_over.nd rfl (.inl rfl) (pe_op op_shr (pe_op op_sub (pe_op op_add (pv 1) (pe_op op_shl pe_int (pv 2))) pe_int) (pv 2)))
      (pss_one (ps_ret (pe_op op_sub (pv 4) (pv 3)))))), ?_⟩
    walk_at "g"
    rw [← over_eq] at q
    exact q

def sp_in_bits (K : PySem.W.Frag) : Sp := fun vs H Q E => ∃ x y o p, vs = [x, y] ∧ Thg H x o ∧ Thg H y p ∧ (∀ lo hi, x = .int lo → y = .int hi → Bd lo hi → ∀ (s : Nat) p, StepIs lo hi s → H p = none → Q (.ref p) (upd H p (.tup [.int s, .int (lo / 2 ^ s), .int (Dd lo hi s + 1)]))) ∧ (are o p = false → Lets K "NoBounds" "text" H E)
theorem ok_in_bits {f : Addr} {fd : FuncData} (F : Fun K "in_bits" "in_bits" s_in_bits f fd) (T : Txt K mg) (C_look_at_bounds : CalX P w K mg base "look_at_bounds" 3 ["low", "high"] (sp_look_at_bounds K)) (C__steps_over : Cal P w K mg base "_steps_over" 1 ["low", "high", "step"] (sp__steps_over K)) : FnOk P w K mg base (L2.CX P w) 4 f fd ["low", "high"] (sp_in_bits K) := by
  obtain ⟨t_TOP_COUNT, hc_TOP_COUNT⟩ := T.c_TOP_COUNT
  refine F.okX sc_in_bits (fun vs H Q E h => ?_) (fun cdv A outer s H vs Q E hr h => ?_)
  · obtain ⟨x, y, o, p, rfl, hx, hy, q, bad⟩ := h; rfl
  · obtain ⟨x, y, o, p, rfl, hx, hy, q, bad⟩ := h
    refine ⟨_, (pss_cons (ps_expr (pe_calX C_look_at_bounds (hr.mono (by decide)) (takes_of rfl rfl rfl rfl) (by exact (pa_cons (pv 0) (pa_cons (pv 1) pa_nil)))))
      (PSs.nox (pss_cons (ps_set (i := 2) sc_in_bits.nd rfl (.inl rfl) pe_int)
      (pss_cons (ps_while PassesOwn.never (pt_cmpR op_gt (pe_cal C__steps_over (hr.mono (by decide)) (pa_cons (pv 0) (pa_cons (pv 1) (pa_cons (pv 2) pa_nil)))) (pe_glob (v := .int 16) (by rfl) hc_TOP_COUNT ⟨_, rfl⟩) (nomark _)) (pss_one (ps_aug (i := 2) sc_in_bits.nd rfl (.inl rfl) pe_int ip_add)))
      (pss_one (ps_ret (pe_tup (pa_cons (pv 2) (pa_cons (pe_op op_shr (pv 0) (pv 2)) (pa_cons (pe_cal C__steps_over (hr.mono (by decide)) (pa_cons (pv 0) (pa_cons (pv 1) (pa_cons (pv 2) pa_nil)))) pa_nil)))))))))), ?_⟩
    refine ⟨_, rfl, _, rfl, x, y, o, p, rfl, hx, hy, fun ha => ?_, bad⟩
    obtain ⟨lo, hi, rfl, rfl, hb⟩ := are_ok hx hy ha
    replace q := q lo hi rfl rfl hb
    refine ⟨fun m σ H' => ∃ s : Nat, σ = [some (.int lo), some (.int hi), some (.int s)] ∧ H' = H ∧ s ≤ 8 ∧ m = 8 - s ∧ ∀ t, t < s → 15 < Dd lo hi t, ⟨8, 0, rfl, rfl, by omega, rfl, fun t ht => by omega⟩, ?_⟩
    rintro m σ H' ⟨s, rfl, rfl, h8, em, hbl⟩
    refine ⟨_, rfl, _, rfl, _, rfl, lo, hi, s, rfl, by omega, ?_⟩
    refine ⟨_, _, rfl, rfl, _, rfl, ifd (fun c => ?_) (fun c => ?_)⟩
    · have l8 := lt8 hb (by omega) h8
      refine ⟨_, fun _ _ h => h, ?_⟩
      refine ⟨_, rfl, _, _, rfl, rfl, 8 - (s + 1), by omega, s + 1, rfl, rfl, by omega, rfl, fun t ht => ?_⟩
      rcases Nat.lt_or_ge t s with d | d
      · exact hbl t d
      · have : t = s := by omega
        subst this; omega
    · refine ⟨_, rfl, _, rfl, _, rfl, _, _, rfl, rfl, by omega, ?_⟩
      refine ⟨_, rfl, _, rfl, _, rfl, lo, hi, s, rfl, by omega, ?_⟩
      refine ⟨sz (by simp), fun p hp => ?_⟩
      exact q s p ⟨h8, by omega, hbl⟩ hp

def sp_least_bounds (K : PySem.W.Frag) : Sp := fun vs H Q E => ∃ x y o p, vs = [x, y] ∧ Thg H x o ∧ Thg H y p ∧ (∀ lo hi, x = .int lo → y = .int hi → Bd lo hi → ∀ (s : Nat) p H', StepIs lo hi s → Same H H' → H p = none → H' p = some (.tup [.int (lo / 2 ^ s * 2 ^ s), .int (((hi - 1) / 2 ^ s + 1) * 2 ^ s)]) → Q (.ref p) H') ∧ (are o p = false → Lets K "NoBounds" "text" H E)
theorem ok_least_bounds {f : Addr} {fd : FuncData} (F : Fun K "least_bounds" "least_bounds" s_least_bounds f fd) (T : Txt K mg) (C_in_bits : CalX P w K mg base "in_bits" 4 ["low", "high"] (sp_in_bits K)) : FnOk P w K mg base (L2.CX P w) 5 f fd ["low", "high"] (sp_least_bounds K) := by
  refine F.okX sc_least_bounds (fun vs H Q E h => ?_) (fun cdv A outer s H vs Q E hr h => ?_)
  · obtain ⟨x, y, o, p, rfl, hx, hy, q, bad⟩ := h; rfl
  · obtain ⟨x, y, o, p, rfl, hx, hy, q, bad⟩ := h
    refine ⟨_, (pss_cons (ps_asg (pe_calX C_in_bits (hr.mono (by decide)) (takes_of rfl rfl rfl rfl) (by exact (pa_cons (pv 0) (pa_cons (pv 1) pa_nil)))) (pg_tup rfl (pgs_cons (pg_name (i := 2) sc_least_bounds.nd rfl (.inl rfl)) (pgs_cons (pg_name (i := 3) sc_least_bounds.nd rfl (.inl rfl)) (pgs_cons (pg_name (i := 4) sc_least_bounds.nd rfl (.inl rfl)) pgs_nil)))))
      (PSs.nox (pss_one (ps_ret (pe_tup (pa_cons (pe_op op_shl (pv 3) (pv 2)) (pa_cons (pe_op op_shl (pe_op op_add (pv 3) (pv 4)) (pv 2)) pa_nil))))))), ?_⟩
    refine ⟨_, rfl, _, rfl, x, y, o, p, rfl, hx, hy, fun lo hi e1 e2 hb s p hs hp => ?_, bad⟩
    subst e1 e2
    replace q := q lo hi rfl rfl hb
    refine ⟨p, _, rfl, .of upd_same, rfl, _, _, rfl, _, _, rfl, _, _, rfl, rfl, ?_⟩
    have h8 := hs.1
    refine ⟨_, rfl, _, rfl, _, _, rfl, rfl, bc hb h8, ?_⟩
    refine ⟨_, rfl, _, rfl, _, _, rfl, rfl, _, rfl, _, _, rfl, rfl, bc2 hb hs, sz (by simp), fun p2 hp2 => ?_⟩
    have n : p ≠ p2 := ne_of_none upd_same hp2
    refine q s p2 _ hs (sameN (same_new hp) hp2) ?_ ?_
    · exact Same.free (same_new hp) hp2
    · rw [upd_same, first_over]; rfl

def sp_is_exact (K : PySem.W.Frag) : Sp := fun vs H Q E => ∃ x y o p, vs = [x, y] ∧ Thg H x o ∧ Thg H y p ∧ (∀ lo hi, x = .int lo → y = .int hi → Bd lo hi → ∀ b H', Same H H' → (b = true ↔ ∃ s, Ex lo hi s) → Q (.bl b) H') ∧ (are o p = false → Lets K "NoBounds" "text" H E)
theorem ok_is_exact {f : Addr} {fd : FuncData} (F : Fun K "is_exact" "is_exact" s_is_exact f fd) (T : Txt K mg) (C_least_bounds : CalX P w K mg base "least_bounds" 5 ["low", "high"] (sp_least_bounds K)) : FnOk P w K mg base (L2.CX P w) 6 f fd ["low", "high"] (sp_is_exact K) := by
  refine F.okX sc_is_exact (fun vs H Q E h => ?_) (fun cdv A outer s H vs Q E hr h => ?_)
  · obtain ⟨x, y, o, p, rfl, hx, hy, q, bad⟩ := h; rfl
  · obtain ⟨x, y, o, p, rfl, hx, hy, q, bad⟩ := h
    refine ⟨_, (pss_one (ps_ret (pe_cmpR (r := rEqD K) (op_eqD hr.units) (pe_calX C_least_bounds (hr.mono (by decide)) (takes_of rfl rfl rfl rfl) (by exact (pa_cons (pv 0) (pa_cons (pv 1) pa_nil)))) (pe_tup (pa_cons (pv 0) (pa_cons (pv 1) pa_nil))) (nomark _)))), ?_⟩
    refine ⟨_, rfl, _, rfl, x, y, o, p, rfl, hx, hy, fun lo hi e1 e2 hb s p H1 hs sm hp hp1 => ?_, bad⟩
    subst e1 e2
    replace q := q lo hi rfl rfl hb
    refine ⟨_, rfl, _, rfl, sz (by simp), fun p2 hp2 => ?_⟩
    have n : p ≠ p2 := ne_of_none hp1 hp2
    refine ⟨_, _, dp2 (by walk_at "at"), dp2 upd_same, rfl, rfl, ?_⟩
    refine q _ _ (sameN sm hp2) ?_
    rw [t2_eqv]
    constructor
    · intro e; exact ⟨s, hs, e.1, e.2⟩
    · rintro ⟨t, ht, e1, e2⟩
      have : t = s := ht.uniq hs
      subst this
      exact ⟨e1, e2⟩

def sp_room_of (K : PySem.W.Frag) : Sp := fun vs H Q E => ∃ y p, vs = [y] ∧ Thg H y p ∧ (∀ n, y = .int n → Bd 0 n → ∀ (s : Nat) p H', StepIs 0 n s → Same H H' → H p = none → H' p = some (.tup [.int (((n - 1) / 2 ^ s + 1) * 2 ^ s), .int s]) → Q (.ref p) H') ∧ (are (some 0) p = false → Lets K "NoBounds" "text" H E)
theorem ok_room_of {f : Addr} {fd : FuncData} (F : Fun K "room_of" "room_of" s_room_of f fd) (T : Txt K mg) (C_in_bits : CalX P w K mg base "in_bits" 4 ["low", "high"] (sp_in_bits K)) : FnOk P w K mg base (L2.CX P w) 5 f fd ["many"] (sp_room_of K) := by
  refine F.okX sc_room_of (fun vs H Q E h => ?_) (fun cdv A outer s H vs Q E hr h => ?_)
  · obtain ⟨y, p, rfl, hy, q, bad⟩ := h; rfl
  · obtain ⟨y, p, rfl, hy, q, bad⟩ := h
    refine ⟨_, (pss_cons (ps_asg (pe_calX C_in_bits (hr.mono (by decide)) (takes_of rfl rfl rfl rfl) (by exact (pa_cons pe_int (pa_cons (pv 0) pa_nil)))) (pg_tup rfl (pgs_cons (pg_name (i := 1) sc_room_of.nd rfl (.inl rfl)) (pgs_cons (pg_name (i := 2) sc_room_of.nd rfl (.inl rfl)) (pgs_cons (pg_name (i := 3) sc_room_of.nd rfl (.inl rfl)) pgs_nil)))))
      (PSs.nox (pss_one (ps_ret (pe_tup (pa_cons (pe_op op_shl (pv 3) (pv 1)) (pa_cons (pv 1) pa_nil))))))), ?_⟩
    refine ⟨_, rfl, .int 0, y, some 0, p, rfl, .int 0, hy, fun lo n e1 e2 hb s p hs hp => ?_, bad⟩
    cases e1
    subst e2
    replace q := q n rfl hb
    refine ⟨p, _, rfl, .of upd_same, rfl, _, _, rfl, _, _, rfl, _, _, rfl, rfl, ?_⟩
    have h8 := hs.1
    refine ⟨_, rfl, _, rfl, _, _, rfl, rfl, bc3 hs hb, _, rfl, sz (by simp), fun p2 hp2 => ?_⟩
    refine q s p2 _ hs (sameN (same_new hp) hp2) (Same.free (same_new hp) hp2) ?_
    rw [upd_same, dd0]; rfl

def sp__can_begin (K : PySem.W.Frag) : Sp := fun vs H Q _ => ∃ (lo hi : Int) (s : Nat), vs = [.int lo, .int hi, .int s] ∧ s ≤ 1000 ∧ ∀ b, (b = true ↔ Can lo hi s) → Q (.bl b) H
theorem ok__can_begin {f : Addr} {fd : FuncData} (F : Fun K "_can_begin" "_can_begin" s__can_begin f fd) (T : Txt K mg) : FnOk P w K mg base CX0 1 f fd ["low", "high", "step"] (sp__can_begin K) := by
  obtain ⟨t_LEAST_COUNT, hc_LEAST_COUNT⟩ := T.c_LEAST_COUNT
  refine F.ok sc__can_begin (fun vs H Q E h => ?_) (fun cdv A outer s H vs Q E hr h => ?_)
  · obtain ⟨lo, hi, s, rfl, hs, q⟩ := h; rfl
  · obtain ⟨lo, hi, s, rfl, hs, q⟩ := h
    refine ⟨_, (pss_one (ps_ret (pe_and (pe_cmpR op_eq (pe_op op_mod (pv 0) (pe_op op_shl pe_int (pv 2))) pe_int (nomark _)) (pe_one (pe_cmpR op_ge (pe_op op_shr (pe_op op_sub (pv 1) (pv 0)) (pv 2)) (pe_glob (v := .int 9) (by rfl) hc_LEAST_COUNT ⟨_, rfl⟩) (nomark _)))))), ?_⟩
    refine ⟨_, rfl, _, rfl, _, _, rfl, rfl, ⟨by omega, by omega, by decide⟩, _, _, rfl, rfl, by show (0 : Int) < 1 * 2 ^ s; have := pow_pos2 s; omega, rfl, _, rfl, ifd (fun e => ?_) (fun e => ?_)⟩
    · refine ⟨_, rfl, _, rfl, _, _, rfl, rfl, _, rfl, _, _, rfl, rfl, by omega, _, _, rfl, rfl, q _ ?_⟩
      have e1 : lo % (1 * 2 ^ s) = 0 := V.int.inj e
      rw [Int.one_mul] at e1
      rw [decide_eq_true_iff]
      exact ⟨fun h => ⟨e1, h⟩, fun h => h.2⟩
    · refine q _ ?_
      have e1 : ¬ lo % (1 * 2 ^ s) = 0 := fun z => e (by rw [← z]; rfl)
      rw [Int.one_mul] at e1
      exact ⟨fun h => Bool.noConfusion h, fun h => absurd h.1 e1⟩

def sp_greatest_high (K : PySem.W.Frag) : Sp := fun vs H Q E => ∃ x y o p, vs = [x, y] ∧ Thg H x o ∧ Thg H y p ∧ (∀ lo hi, x = .int lo → y = .int hi → Bd lo hi → ∀ s : Nat, GH lo hi s → Q (.int (lo + mn lo hi s * 2 ^ s)) H) ∧ (are o p = false → Lets K "NoBounds" "text" H E)
theorem ok_greatest_high {f : Addr} {fd : FuncData} (F : Fun K "greatest_high" "greatest_high" s_greatest_high f fd) (T : Txt K mg) (C_look_at_bounds : CalX P w K mg base "look_at_bounds" 3 ["low", "high"] (sp_look_at_bounds K)) (C__can_begin : Cal P w K mg base "_can_begin" 1 ["low", "high", "step"] (sp__can_begin K)) : FnOk P w K mg base (L2.CX P w) 4 f fd ["low", "high"] (sp_greatest_high K) := by
  obtain ⟨t_TOP_COUNT, hc_TOP_COUNT⟩ := T.c_TOP_COUNT
  obtain ⟨t_TOP_STEP, hc_TOP_STEP⟩ := T.c_TOP_STEP
  refine F.okX sc_greatest_high (fun vs H Q E h => ?_) (fun cdv A outer s H vs Q E hr h => ?_)
  · obtain ⟨x, y, o, p, rfl, hx, hy, q, bad⟩ := h; rfl
  · obtain ⟨x, y, o, p, rfl, hx, hy, q, bad⟩ := h
    refine ⟨_, (pss_cons (ps_expr (pe_calX C_look_at_bounds (hr.mono (by decide)) (takes_of rfl rfl rfl rfl) (by exact (pa_cons (pv 0) (pa_cons (pv 1) pa_nil)))))
      (PSs.nox (pss_cons (ps_set (i := 2) sc_greatest_high.nd rfl (.inl rfl) (pe_glob (v := .int 8) (by rfl) hc_TOP_STEP ⟨_, rfl⟩))
      (pss_cons (ps_while PassesOwn.never (PW.pt (pw_and (pt_cmpR op_gt (pv 2) pe_int (nomark _)) (pw_and1 (pt_not (pt_val (pe_cal C__can_begin (hr.mono (by decide)) (pa_cons (pv 0) (pa_cons (pv 1) (pa_cons (pv 2) pa_nil))))))))) (pss_one (ps_aug (i := 2) sc_greatest_high.nd rfl (.inl rfl) pe_int ip_sub)))
      (pss_one (ps_ret (pe_op op_add (pv 0) (pe_op op_shl (pe_callB (call_min2 rfl) (by rfl) T.z_min (by decide +kernel) (pa_cons (pe_glob (v := .int 16) (by rfl) hc_TOP_COUNT ⟨_, rfl⟩) (pa_cons (pe_op op_shr (pe_op op_sub (pv 1) (pv 0)) (pv 2)) pa_nil))) (pv 2))))))))), ?_⟩
    refine ⟨_, rfl, _, rfl, x, y, o, p, rfl, hx, hy, fun ha => ?_, bad⟩
    obtain ⟨lo, hi, rfl, rfl, hb⟩ := are_ok hx hy ha
    replace q := q lo hi rfl rfl hb
    refine ⟨fun m σ H' => ∃ s : Nat, σ = [some (.int lo), some (.int hi), some (.int s)] ∧ H' = H ∧ s ≤ 8 ∧ m = s ∧ ∀ t, s < t → t ≤ 8 → ¬ Can lo hi t, ⟨8, 8, rfl, rfl, by omega, rfl, fun t h1 h2 => by omega⟩, ?_⟩
    rintro m σ H' ⟨s, rfl, rfl, h8, em, hbl⟩
    have fin : (s = 0 ∨ Can lo hi s) → Q (.int (lo + mn lo hi s * 2 ^ s)) H' := fun z => q s ⟨h8, z, hbl⟩
    refine ⟨_, rfl, _, _, rfl, rfl, _, rfl, ifd (fun c => ?_) (fun c => ?_)⟩
    · refine ⟨_, rfl, _, rfl, _, rfl, lo, hi, s, rfl, by omega, fun b hb2 => ⟨_, rfl, ifnb (fun e => ?_) (fun e => ?_)⟩⟩
      · refine ⟨_, fun _ _ h => h, ?_⟩
        refine ⟨_, rfl, _, _, rfl, rfl, s - 1, (by have c2 : (0 : Int) < (s : Int) := c; omega), s - 1, ?_, rfl, by omega, rfl, fun t ht h8 => ?_⟩
        · have z : ((s - 1 : Nat) : Int) = (s : Int) - 1 := by have c2 : (0 : Int) < (s : Int) := c; omega
          rw [z]; rfl
        · rcases Nat.lt_or_ge s t with d | d
          · exact hbl t d h8
          · have : t = s := by omega
            subst this
            intro z
            rw [hb2.mpr z] at e; cases e
      · refine ⟨_, rfl, _, rfl, _, rfl, _, _, rfl, rfl, _, rfl, _, _, rfl, rfl, by omega, _, _, rfl, _, rfl, _, _, rfl, rfl, cmn hb h8, _, _, rfl, rfl, fin (.inr (hb2.mp e))⟩
    · refine ⟨_, rfl, _, rfl, _, rfl, _, _, rfl, rfl, _, rfl, _, _, rfl, rfl, by omega, _, _, rfl, _, rfl, _, _, rfl, rfl, cmn hb h8, _, _, rfl, rfl, fin (.inl (by have c2 : ¬ ((0 : Int) < (s : Int)) := c; omega))⟩

def sp__law_take (K : PySem.W.Frag) : Sp := fun vs H Q _ => ∃ (a : Addr) (x y m : Int), vs = [.ref a, .int m] ∧ Pool H a x y ∧ 0 < m ∧ m < 1073741824 ∧ ∀ r x1 y1, 0 ≤ r → r < m → Pool (upd H a (.lst [.int x1, .int y1])) a x1 y1 → Q (.int r) (upd H a (.lst [.int x1, .int y1]))
theorem ok__law_take {f : Addr} {fd : FuncData} (F : Fun K "_law_take" "_law_take" s__law_take f fd) (T : Txt K mg) : FnOk P w K mg base CX0 1 f fd ["_law_pool_here", "_law_many"] (sp__law_take K) := by
  refine F.ok sc__law_take (fun vs H Q E h => ?_) (fun cdv A outer s H vs Q E hr h => ?_)
  · obtain ⟨a, x, y, m, rfl, hp, hm, hm2, q⟩ := h; rfl
  · obtain ⟨a, x, y, m, rfl, hp, hm, hm2, q⟩ := h
    refine ⟨_, (pss_cons (ps_if (pt_cmpR op_gt (pe_ix (r := rIxL K) ix_list (pv 0) pe_int (fun _ _ => rfl)) pe_int (nomark _)) (pss_cons (ps_set (i := 2) sc__law_take.nd rfl (.inl rfl) (pe_op op_mod (pe_ix (r := rIxL K) ix_list (pv 0) pe_int (fun _ _ => rfl)) (pv 1)))
      (pss_cons (ps_asg (pe_op op_fdiv (pe_ix (r := rIxL K) ix_list (pv 0) pe_int (fun _ _ => rfl)) (pv 1)) (pg_sub (pv 0) pe_int set_list))
      (pss_one (ps_ret (pv 2))))) pss_nil)
      (pss_cons (ps_asg (pe_op op_mod (pe_op op_add (pe_op op_mul (pe_ix (r := rIxL K) ix_list (pv 0) pe_int (fun _ _ => rfl)) pe_int) pe_int) pe_int) (pg_sub (pv 0) pe_int set_list))
      (pss_one (ps_ret (pe_op op_mod (pe_op op_fdiv (pe_op op_mod (pe_op op_mul (pe_ix (r := rIxL K) ix_list (pv 0) pe_int (fun _ _ => rfl)) (pe_ix (r := rIxL K) ix_list (pv 0) pe_int (fun _ _ => rfl))) pe_int) pe_int) (pv 1)))))), ?_⟩
    obtain ⟨hp, x0, y0, y1⟩ := hp
    refine ⟨_, rfl, a, _, 0, _, rfl, rfl, .of hp, atI_nat (j := 0) rfl, _, _, rfl, rfl, _, rfl, ifd (fun c => ?_) (fun c => ?_)⟩
    · refine ⟨_, rfl, a, _, 0, _, rfl, rfl, .of hp, atI_nat (j := 0) rfl, _, rfl, _, _, rfl, rfl, hm, ?_⟩
      refine ⟨_, rfl, a, _, 0, _, rfl, rfl, .of hp, atI_nat (j := 0) rfl, _, rfl, _, _, rfl, rfl, ⟨hm, hm2⟩, ?_⟩
      refine ⟨_, rfl, a, _, 0, 0, rfl, rfl, hp, rfl, ?_⟩
      refine ⟨_, rfl, q (x % m) (x / m) y (Int.emod_nonneg _ (by omega)) (Int.emod_lt_of_pos _ hm) ⟨upd_same, Int.ediv_nonneg x0 (by omega), y0, y1⟩⟩
    · refine ⟨_, rfl, a, _, 1, _, rfl, rfl, .of hp, atI_nat (j := 1) rfl, _, _, rfl, rfl, .inr ⟨by decide, by decide⟩, _, _, rfl, rfl, _, _, rfl, rfl, (by show (0 : Int) < _; decide), ?_⟩
      refine ⟨_, rfl, a, _, 1, 1, rfl, rfl, hp, rfl, ?_⟩
      have u1 : 0 ≤ (y * 48271 + 11) % 2147483647 := Int.emod_nonneg _ (by decide)
      have u2 : (y * 48271 + 11) % 2147483647 < 2147483647 := Int.emod_lt_of_pos _ (by decide)
      refine ⟨_, rfl, a, _, 1, _, rfl, rfl, .of upd_same, atI_nat (j := 1) rfl, _, rfl, a, _, 1, _, rfl, rfl, .of upd_same, atI_nat (j := 1) rfl, _, _, rfl, rfl, .inl ⟨by omega, by omega⟩, _, _, rfl, rfl, (by show (0 : Int) < _; decide), _, _, rfl, rfl, ⟨by decide, by decide⟩, _, rfl, _, _, rfl, rfl, hm, ?_⟩
      exact q _ x ((y * 48271 + 11) % 2147483647) (Int.emod_nonneg _ (by omega)) (Int.emod_lt_of_pos _ hm) ⟨upd_same, x0, u1, u2⟩

def sp__law_pool (K : PySem.W.Frag) : Sp := fun vs H Q _ => ∃ (a : Addr) (ns : List Int) (k : Nat), vs = [.ref a, .int k] ∧ SqL K H a (ns.map V.int) ∧ ns.length ≤ 63 ∧ k ≤ 63 ∧ ∀ x y p H', Same H H' → H p = none → Pool H' p x y → Q (.ref p) H'
theorem ok__law_pool {f : Addr} {fd : FuncData} (F : Fun K "_law_pool" "_law_pool" s__law_pool f fd) (T : Txt K mg) : FnOk P w K mg base CX0 1 f fd ["_law_script", "_law_k"] (sp__law_pool K) := by
  refine F.ok sc__law_pool (fun vs H Q E h => ?_) (fun cdv A outer s H vs Q E hr h => ?_)
  · obtain ⟨a, ns, k, rfl, hS, hlen, hk, q⟩ := h; rfl
  · obtain ⟨a, ns, k, rfl, hS, hlen, hk, q⟩ := h
    refine ⟨_, (pss_cons (ps_set (i := 2) sc__law_pool.nd rfl (.inl rfl) (pe_op op_add (pe_op op_mul pe_int (pe_callB (cr_sum rfl) (by rfl) T.z_sum (by decide +kernel) (pa_cons (pe_slice sl_list (pv 0) po_none (po_some pe_int)) pa_nil))) (pv 1)))
      (pss_cons (ps_if (pt_cmpR op_lt (pv 1) (pe_callB call_len_seq (by rfl) T.z_len (by decide +kernel) (pa_cons (pv 0) pa_nil)) (nomark _)) (pss_one (ps_set (i := 2) sc__law_pool.nd rfl (.inl rfl) (pe_ix (r := rIxL K) ix_list (pv 0) (pv 1) (fun _ _ => rfl)))) pss_nil)
      (pss_cons (ps_set (i := 3) sc__law_pool.nd rfl (.inl rfl) (pe_callB call_abs (by rfl) T.z_abs (by decide +kernel) (pa_cons (pv 2) pa_nil)))
      (pss_cons (ps_set (i := 4) sc__law_pool.nd rfl (.inl rfl) (pe_op op_mod (pe_op op_mul (pe_op op_add (pe_op op_add (pe_op op_add (pe_op op_mod (pv 3) pe_int) (pe_op op_mul (pe_op op_mul pe_int (pv 1)) (pv 1))) (pe_op op_mul pe_int (pv 1))) pe_int) pe_int) pe_int))
      (pss_one (ps_ret (pe_lst (pa_cons (pe_op op_mul (pv 3) (pe_callTy call_int1 (by rfl) T.z_int (by decide +kernel) (pa_cons (pe_cmpR op_ge (pv 3) (pe_op op_pow pe_int pe_int) (nomark _)) pa_nil))) (pa_cons (pe_op op_mod (pe_op op_mul (pv 4) (pv 4)) pe_int) pa_nil))))))))), ?_⟩
    refine ⟨_, rfl, _, rfl, a, _, rfl, hS, fun p hp => ?_⟩
    have s1 : Same H (upd H p (.lst (cutV (ns.map V.int) none (some 63)))) := same_new hp
    have hS1 : SqL K (upd H p (.lst (cutV (ns.map V.int) none (some 63)))) a (ns.map V.int) := s1.seq hS
    refine ⟨p, ns, rfl, .of (by rw [upd_same, cut63 hlen]), _, _, rfl, rfl, .inl ⟨by decide, by decide⟩, _, rfl, _, _, rfl, rfl, ?_⟩
    refine ⟨_, rfl, _, rfl, a, _, rfl, .inl hS1, _, _, rfl, rfl, _, rfl, ifd (fun c => ?_) (fun c => ?_)⟩
    · rw [List.length_map] at c
      have hk2 : k < ns.length := by omega
      refine ⟨_, rfl, _, rfl, a, _, (k : Int), .int ns[k], rfl, rfl, hS1, atI_nat (by rw [List.getElem?_map, List.getElem?_eq_getElem hk2]; rfl), ?_⟩
      refine ⟨_, rfl, _, rfl, ?_⟩
      refine ⟨_, rfl, _, _, rfl, rfl, (by show (0 : Int) < _; decide), _, rfl, _, _, rfl, rfl, .inl ⟨by decide, by decide⟩, _, rfl, _, _, rfl, rfl, .inr ⟨by omega, by omega⟩, _, _, rfl, rfl, _, rfl, _, _, rfl, rfl, .inl ⟨by decide, by decide⟩, _, _, rfl, rfl, _, _, rfl, rfl, _, _, rfl, rfl, .inr ⟨by decide, by decide⟩, _, _, rfl, rfl, (by show (0 : Int) < _; decide), ?_⟩
      refine ⟨_, rfl, _, rfl, _, _, rfl, rfl, ⟨by decide, by decide, by decide⟩, _, _, rfl, rfl, .inr ⟨_, rfl, _, _, rfl, rfl, .inr (b01 _), ?_⟩⟩
      refine ⟨_, rfl, _, rfl, _, _, rfl, rfl, .inl (mixb _), _, _, rfl, rfl, (by show (0 : Int) < _; decide), sz (by simp), fun p2 hp2 => ?_⟩
      exact q _ _ p2 _ (sameN s1 hp2) (Same.free s1 hp2) ⟨upd_same, sizeb _ _, Int.emod_nonneg _ (by decide), Int.lt_trans (Int.emod_lt_of_pos _ (by decide)) (by decide)⟩
    · refine ⟨_, rfl, _, rfl, ?_⟩
      refine ⟨_, rfl, _, _, rfl, rfl, (by show (0 : Int) < _; decide), _, rfl, _, _, rfl, rfl, .inl ⟨by decide, by decide⟩, _, rfl, _, _, rfl, rfl, .inr ⟨by omega, by omega⟩, _, _, rfl, rfl, _, rfl, _, _, rfl, rfl, .inl ⟨by decide, by decide⟩, _, _, rfl, rfl, _, _, rfl, rfl, _, _, rfl, rfl, .inr ⟨by decide, by decide⟩, _, _, rfl, rfl, (by show (0 : Int) < _; decide), ?_⟩
      refine ⟨_, rfl, _, rfl, _, _, rfl, rfl, ⟨by decide, by decide, by decide⟩, _, _, rfl, rfl, .inr ⟨_, rfl, _, _, rfl, rfl, .inr (b01 _), ?_⟩⟩
      refine ⟨_, rfl, _, rfl, _, _, rfl, rfl, .inl (mixb _), _, _, rfl, rfl, (by show (0 : Int) < _; decide), sz (by simp), fun p2 hp2 => ?_⟩
      exact q _ _ p2 _ (sameN s1 hp2) (Same.free s1 hp2) ⟨upd_same, sizeb _ _, Int.emod_nonneg _ (by decide), Int.lt_trans (Int.emod_lt_of_pos _ (by decide)) (by decide)⟩

def sp__law_odd (K : PySem.W.Frag) : Sp := fun vs H Q _ => ∃ (a : Addr) (x y : Int), vs = [.ref a] ∧ Pool H a x y ∧ ∀ v o x1 y1 H', But a H H' → Pool H' a x1 y1 → Thg H' v o → (∀ q, v = .ref q → q ≠ a) → Q v H'
theorem ok__law_odd {f : Addr} {fd : FuncData} (F : Fun K "_law_odd" "_law_odd" s__law_odd f fd) (T : Txt K mg) (C__law_take : Cal P w K mg base "_law_take" 1 ["_law_pool_here", "_law_many"] (sp__law_take K)) : FnOk P w K mg base CX0 2 f fd ["_law_pool_here"] (sp__law_odd K) := by
  refine F.ok sc__law_odd (fun vs H Q E h => ?_) (fun cdv A outer s H vs Q E hr h => ?_)
  · obtain ⟨a, x, y, rfl, hP, q⟩ := h; rfl
  · obtain ⟨a, x, y, rfl, hP, q⟩ := h
    refine ⟨_, (pss_cons (ps_set (i := 1) sc__law_odd.nd rfl (.inl rfl) (pe_lst (pa_cons pe_int (pa_cons pe_int (pa_cons pe_int (pa_cons pe_int (pa_cons pe_int (pa_cons (pe_un un_neg pe_int) (pa_cons (pe_op op_pow pe_int pe_int) (pa_cons pe_non (pa_cons pe_bl (pa_cons pe_bl (pa_cons pe_str (pa_cons (pe_tup (pa_cons pe_int pa_nil)) (pa_cons (pe_lst (pa_cons pe_int pa_nil)) (pa_cons pe_dnewK (pa_cons (pe_cal C__law_take (hr.mono (by decide)) (pa_cons (pv 0) (pa_cons pe_int pa_nil))) pa_nil)))))))))))))))))
      (pss_one (ps_ret (pe_ix (r := rIxL K) ix_list (pv 1) (pe_cal C__law_take (hr.mono (by decide)) (pa_cons (pv 0) (pa_cons pe_int pa_nil))) (fun _ _ => rfl))))), ?_⟩
    refine ⟨_, rfl, _, _, rfl, rfl, ⟨by decide, by decide, by decide⟩, ?_⟩
    refine ⟨sz (by simp), fun t1 ht1 => ⟨sz (by simp), fun l1 hl1 => fun d1 hd1 => ?_⟩⟩
    have nt : t1 ≠ a := (ne_of_none hP.1 ht1).symm
    have nl : l1 ≠ a := (ne_of_none (hP.new ht1).1 hl1).symm
    have nd : d1 ≠ a := (ne_of_none ((hP.new ht1).new hl1).1 hd1).symm
    have ft := updK (o := .dK []) (ne_of_none (updK (o := .lst [.int 1]) (ne_of_none upd_same hl1) upd_same) hd1) (updK (o := .lst [.int 1]) (ne_of_none upd_same hl1) (upd_same (H := H) (a := t1) (o := .tup [.int 1])))
    have fl := updK (o := .dK []) (ne_of_none upd_same hd1) (upd_same (H := upd H t1 (.tup [.int 1])) (a := l1) (o := .lst [.int 1]))
    have fd := upd_same (H := upd (upd H t1 (.tup [.int 1])) l1 (.lst [.int 1])) (a := d1) (o := .dK [])
    have B1 : But a H (upd (upd (upd H t1 (.tup [.int 1])) l1 (.lst [.int 1])) d1 (.dK [])) := (((But.refl a H).new ht1).new hl1).new hd1
    have P1 := ((hP.new ht1).new hl1).new hd1 (o := .dK [])
    generalize upd (upd (upd H t1 (.tup [.int 1])) l1 (.lst [.int 1])) d1 (.dK []) = H1 at *
    refine ⟨_, rfl, a, x, y, _, rfl, P1, by decide, by decide, fun r x1 y1 r0 r1 P2 => ⟨sz (by simp), fun L hL => ?_⟩⟩
    have nL : L ≠ a := (ne_of_none P2.1 hL).symm
    refine ⟨_, rfl, ?_⟩
    have P3 := P2.new hL (o := .lst [V.int 0, V.int 1, V.int 4095, V.int 4096, V.int 4097, V.int (-1), V.int (10 ^ (20 : Int).toNat), V.non, V.bl true, V.bl false, V.str (Str.ofString "1"), V.ref t1, V.ref l1, V.ref d1, V.int r])
    refine ⟨_, rfl, a, x1, y1, _, rfl, P3, by decide, by decide, fun j x2 y2 j0 j1 P4 => ?_⟩
    obtain ⟨k, rfl⟩ := Int.eq_ofNat_of_zero_le j0
    have hk : k < 15 := by omega
    have B4 : But a H1 (upd (upd (upd H1 a (.lst [.int x1, .int y1])) L (.lst [V.int 0, V.int 1, V.int 4095, V.int 4096, V.int 4097, V.int (-1), V.int (10 ^ (20 : Int).toNat), V.non, V.bl true, V.bl false, V.str (Str.ofString "1"), V.ref t1, V.ref l1, V.ref d1, V.int r])) a (.lst [.int x2, .int y2])) := ((But.refl a H1).upd.new hL).upd
    have hv := List.getElem?_eq_getElem (l := [V.int 0, V.int 1, V.int 4095, V.int 4096, V.int 4097, V.int (-1), V.int (10 ^ (20 : Int).toNat), V.non, V.bl true, V.bl false, V.str (Str.ofString "1"), V.ref t1, V.ref l1, V.ref d1, V.int r]) (i := k) (by simp; omega)
    have fL := updK (o := .lst [.int x2, .int y2]) nL (upd_same (H := upd H1 a (.lst [.int x1, .int y1])) (a := L) (o := .lst [V.int 0, V.int 1, V.int 4095, V.int 4096, V.int 4097, V.int (-1), V.int (10 ^ (20 : Int).toNat), V.non, V.bl true, V.bl false, V.str (Str.ofString "1"), V.ref t1, V.ref l1, V.ref d1, V.int r]))
    refine ⟨L, _, (k : Int), _, rfl, rfl, .of fL, atI_nat hv, ?_⟩
    generalize upd (upd (upd H1 a (.lst [.int x1, .int y1])) L (.lst [V.int 0, V.int 1, V.int 4095, V.int 4096, V.int 4097, V.int (-1), V.int (10 ^ (20 : Int).toNat), V.non, V.bl true, V.bl false, V.str (Str.ofString "1"), V.ref t1, V.ref l1, V.ref d1, V.int r])) a (.lst [.int x2, .int y2]) = H4 at *
    generalize [V.int 0, V.int 1, V.int 4095, V.int 4096, V.int 4097, V.int (-1), V.int (10 ^ (20 : Int).toNat), V.non, V.bl true, V.bl false, V.str (Str.ofString "1"), V.ref t1, V.ref l1, V.ref d1, V.int r][k] = v at *
    have hm := List.mem_of_getElem? hv
    have z : ∃ o, Thg H4 v o ∧ ∀ q, v = .ref q → q ≠ a := by
      have it : ∀ i : Int, ∃ o, Thg H4 (V.int i) o ∧ ∀ q, V.int i = .ref q → q ≠ a := fun i => ⟨_, .int i, fun q e => by cases e⟩
      simp only [List.mem_cons, List.not_mem_nil, or_false] at hm
      rcases hm with h | h | h | h | h | h | h | h | h | h | h | h | h | h | h <;> subst h
      · exact it _
      · exact it _
      · exact it _
      · exact it _
      · exact it _
      · exact it _
      · exact it _
      · exact ⟨_, .non, fun q e => by cases e⟩
      · exact ⟨_, .bl _, fun q e => by cases e⟩
      · exact ⟨_, .bl _, fun q e => by cases e⟩
      · exact ⟨_, .str _, fun q e => by cases e⟩
      · exact ⟨_, .tup (B4 _ _ nt ft), fun q e => by cases e; exact nt⟩
      · exact ⟨_, .lst (B4 _ _ nl fl), fun q e => by cases e; exact nl⟩
      · exact ⟨_, .dK (B4 _ _ nd fd), fun q e => by cases e; exact nd⟩
      · exact it _
    obtain ⟨o, h1, h2⟩ := z
    exact q v o x2 y2 H4 (B1.trans B4) P4 h1 h2

def sp__law_is_number (K : PySem.W.Frag) : Sp := fun vs H Q _ => ∃ x o l m, vs = [x, .int l, .int m] ∧ Thg H x o ∧ Q (.bl (wh o l m)) H
theorem ok__law_is_number {f : Addr} {fd : FuncData} (F : Fun K "_law_is_number" "_law_is_number" s__law_is_number f fd) (T : Txt K mg) : FnOk P w K mg base CX0 1 f fd ["_law_thing", "_law_least", "_law_most"] (sp__law_is_number K) := by
  refine F.ok sc__law_is_number (fun vs H Q E h => ?_) (fun cdv A outer s H vs Q E hr h => ?_)
  · obtain ⟨x, o, l, m, rfl, hx, q⟩ := h; rfl
  · obtain ⟨x, o, l, m, rfl, hx, q⟩ := h
    refine ⟨_, (pss_one (ps_ret (pe_and (pe_callB call_isi (by rfl) T.z_isinstance (by decide +kernel) (pa_cons (pv 0) (pa_cons (pe_bltn (v := .ty "int") (by rfl) T.z_int (by decide +kernel) rfl) pa_nil))) (pe_and (pe_not (pe_callB call_isi (by rfl) T.z_isinstance (by decide +kernel) (pa_cons (pv 0) (pa_cons (pe_bltn (v := .ty "bool") (by rfl) T.z_bool (by decide +kernel) rfl) pa_nil)))) (pe_one (pe_chain op_le op_le (pv 1) (pv 0) (pv 2))))))), ?_⟩
    cases hx with
    | int n =>
      refine ⟨_, rfl, _, _, _, _, true, rfl, .ty "int", .base (.int n), kit_ty (by decide +kernel), true, rfl, iteT ?_⟩
      refine ⟨_, rfl, _, _, _, _, false, rfl, .ty "bool", .base (.int n), kit_ty (by decide +kernel), false, rfl, true, rfl, iteT ?_⟩
      refine ⟨_, rfl, _, rfl, _, _, rfl, rfl, _, rfl, ifd (fun h1 => ?_) (fun h1 => ?_)⟩
      · refine ⟨_, rfl, _, _, rfl, rfl, ?_⟩
        have e : wh (some n) l m = decide (n ≤ m) := by simp [wh, h1]
        rw [e] at q; exact q
      · have e : wh (some n) l m = false := by simp [wh, h1]
        rw [e] at q; exact q
    | bl b =>
      refine ⟨_, rfl, _, _, _, _, true, rfl, .ty "int", .base (.bl b), kit_ty (by decide +kernel), true, rfl, iteT ?_⟩
      refine ⟨_, rfl, _, _, _, _, true, rfl, .ty "bool", .base (.bl b), kit_ty (by decide +kernel), true, rfl, false, rfl, iteF ?_⟩
      exact q
    | non => refine ⟨_, rfl, _, _, _, _, false, rfl, .ty "int", .base .non, kit_ty (by decide +kernel), false, rfl, iteF ?_⟩; exact q
    | str x => refine ⟨_, rfl, _, _, _, _, false, rfl, .ty "int", .base (.str x), kit_ty (by decide +kernel), false, rfl, iteF ?_⟩; exact q
    | lst e => refine ⟨_, rfl, _, _, _, _, false, rfl, .ty "int", .base (.lst e), kit_ty (by decide +kernel), false, rfl, iteF ?_⟩; exact q
    | tup e => refine ⟨_, rfl, _, _, _, _, false, rfl, .ty "int", .base (.tup e), kit_ty (by decide +kernel), false, rfl, iteF ?_⟩; exact q
    | dK e => refine ⟨_, rfl, _, _, _, _, false, rfl, .ty "int", .base (.dK e), kit_ty (by decide +kernel), false, rfl, iteF ?_⟩; exact q

def sp__law_said (K : PySem.W.Frag) : Sp := fun vs H Q _ => ∃ (dr : Int) (x y : V) (o p : Option Int), vs = [.int dr, x, y] ∧ 0 ≤ dr ∧ dr ≤ 4 ∧ Thg H x o ∧ Thg H y p ∧ ∀ H', Same H H' → Q (.str (if okd dr o p = true then Str.ofString "told" else Str.ofString "none")) H'
theorem ok__law_said {f : Addr} {fd : FuncData} (F : Fun K "_law_said" "_law_said" s__law_said f fd) (T : Txt K mg) (C_in_bits : CalX P w K mg base "in_bits" 4 ["low", "high"] (sp_in_bits K)) (C_least_bounds : CalX P w K mg base "least_bounds" 5 ["low", "high"] (sp_least_bounds K)) (C_is_exact : CalX P w K mg base "is_exact" 6 ["low", "high"] (sp_is_exact K)) (C_room_of : CalX P w K mg base "room_of" 5 ["many"] (sp_room_of K)) (C_greatest_high : CalX P w K mg base "greatest_high" 4 ["low", "high"] (sp_greatest_high K)) : FnOk P w K mg base CX0 7 f fd ["_law_door", "_law_low", "_law_high"] (sp__law_said K) := by
  obtain ⟨p_NoAddress, hk_NoAddress, ak_NoAddress⟩ := T.k_NoAddress
  obtain ⟨p_NoBounds, hk_NoBounds, ak_NoBounds⟩ := T.k_NoBounds
  obtain ⟨p_NoFields, hk_NoFields, ak_NoFields⟩ := T.k_NoFields
  obtain ⟨p_NoNumber, hk_NoNumber, ak_NoNumber⟩ := T.k_NoNumber
  obtain ⟨p_ReachError, hk_ReachError, ak_ReachError⟩ := T.k_ReachError
  refine F.ok sc__law_said (fun vs H Q E h => ?_) (fun cdv A outer s H vs Q E hr h => ?_)
  · obtain ⟨dr, x, y, o, p, rfl, d0, d4, hx, hy, q⟩ := h; rfl
  · obtain ⟨dr, x, y, o, p, rfl, d0, d4, hx, hy, q⟩ := h
    refine ⟨_, (pss_cons (ps_set (i := 3) sc__law_said.nd rfl (.inl rfl) pe_non)
      (pss_cons (ps_try_keep (i := 4) (c := .ref p_ReachError) (Wout := fun _ _ _ _ => False) rfl rfl rfl sc__law_said.nd rfl rfl ⟨rfl, by decide, .inl hk_ReachError⟩ takes0
      (fun W pn xe tk _ => (pss_one (ps_if (pt_cmpR op_eq (pv 0) pe_int (nomark _)) (pss_one (ps_expr (by exact (pe_calX C_least_bounds (hr.mono (by decide)) tk (by exact (pa_cons (pv 1) (pa_cons (pv 2) pa_nil))))))) (pss_one (ps_if (pt_cmpR op_eq (pv 0) pe_int (nomark _)) (pss_one (ps_expr (by exact (pe_calX C_is_exact (hr.mono (by decide)) tk (by exact (pa_cons (pv 1) (pa_cons (pv 2) pa_nil))))))) (pss_one (ps_if (pt_cmpR op_eq (pv 0) pe_int (nomark _)) (pss_one (ps_expr (by exact (pe_calX C_in_bits (hr.mono (by decide)) tk (by exact (pa_cons (pv 1) (pa_cons (pv 2) pa_nil))))))) (pss_one (ps_if (pt_cmpR op_eq (pv 0) pe_int (nomark _)) (pss_one (ps_expr (by exact (pe_calX C_greatest_high (hr.mono (by decide)) tk (by exact (pa_cons (pv 1) (pa_cons (pv 2) pa_nil))))))) (pss_one (ps_expr (by exact (pe_calX C_room_of (hr.mono (by decide)) tk (by exact (pa_cons (pv 1) pa_nil)))))))))))))))
      (fun a oe cls d pn hz hf => (pss_one (ps_set (i := 3) sc__law_said.nd rfl (.inl rfl) (pv 4)))))
      (pss_cons (ps_if (pt_cmpR op_isN (pv 3) pe_non (nomark _)) (pss_one (ps_ret pe_str)) pss_nil)
      (pss_cons (ps_if (PW.pt (pw_or (pt_not (pt_val (pe_callB call_isX (by rfl) T.z_isinstance (by decide +kernel) (pa_cons (pv 3) (pa_cons (pe_glob (v := .ref p_NoBounds) (by rfl) hk_NoBounds rfl) pa_nil))))) (pw_or1 (pt_val (pe_callB call_isXT (by rfl) T.z_isinstance (by decide +kernel) (pa_cons (pv 3) (pa_cons (pe_tup (pa_cons (pe_glob (v := .ref p_NoAddress) (by rfl) hk_NoAddress rfl) (pa_cons (pe_glob (v := .ref p_NoFields) (by rfl) hk_NoFields rfl) (pa_cons (pe_glob (v := .ref p_NoNumber) (by rfl) hk_NoNumber rfl) pa_nil)))) pa_nil))))))) (pss_one (ps_ret pe_str)) pss_nil)
      (pss_one (ps_ret (pe_ix (r := rIxL K) ix_list (pe_lst (pa_cons pe_str (pa_cons pe_str pa_nil))) (pe_callTy call_int1 (by rfl) T.z_int (by decide +kernel) (pa_cons (pe_callB call_isX (by rfl) T.z_isinstance (by decide +kernel) (pa_cons (pv 3) (pa_cons (pe_bltn (v := .ty "ValueError") (by rfl) T.z_ValueError (by decide +kernel) rfl) pa_nil))) pa_nil)) (fun _ _ => rfl)))))))), ?_⟩
    rcases dr5 d0 d4 with rfl | rfl | rfl | rfl | rfl
    · refine ⟨_, rfl, rfl, _, rfl, ifd (fun _ => ?_) (fun c => absurd rfl c)⟩
      refine ⟨_, rfl, _, rfl, x, y, o, p, rfl, hx, hy, fun lo hi e1 e2 hb s p1 H1 hs sm hp1 hp2 => ?_, fun bad C d v H1 hC sm hd => ?_⟩
      · have ok : okd 0 o p = true := by subst e1 e2; cases hx; cases hy; exact decide_eq_true hb
        have z := q H1 sm
        refine ⟨_, rfl, rfl, _, rfl, ifd (fun _ => ?_) (fun c => absurd rfl c)⟩
        rw [if_pos ok] at z
        exact z
      · have ok : okd 0 o p = false := bad
        refine ⟨true, T.x_NoBounds_ReachError _ _ hC ak_ReachError, fun _ a na => ?_, fun z => nomatch z⟩
        refine ⟨_, rfl, ?_⟩
        have nd : d ≠ a := ne_of_none upd_same na
        have e1 : (upd (upd H1 d (.xd [("text", v)])) a (kept a (.ref C) (some d))) a = some (kept a (.ref C) (some d)) := upd_same
        have e2 : (upd (upd H1 d (.xd [("text", v)])) a (kept a (.ref C) (some d))) d = some (.xd [("text", v)]) := by rw [upd_ne nd, upd_same]
        have sm2 : Same H (upd (upd H1 d (.xd [("text", v)])) a (kept a (.ref C) (some d))) := sameN (sameN sm hd) na
        refine ⟨_, rfl, rfl, _, rfl, ifd (fun c => by cases c) (fun _ => ?_)⟩
        generalize upd (upd H1 d (.xd [("text", v)])) a (kept a (.ref C) (some d)) = H2 at e1 e2 sm2 ⊢
        refine ⟨_, rfl, a, C, d, _, _, _, true, rfl, e1, e2, T.e_NoBounds _ hC, .own _, T.i_NoBounds_NoBounds _ _ hC ak_NoBounds, ?_⟩
        refine ⟨_, rfl, ifnb (fun e => by cases e) (fun _ => ?_)⟩
        refine ⟨_, rfl, sz (by simp), fun tp htp => ?_⟩
        have n1 := ne_of_none e1 htp
        have n2 := ne_of_none e2 htp
        refine ⟨a, C, d, _, tp, _, _, false, rfl, updK n1 e1, updK n2 e2, T.e_NoBounds _ hC, upd_same, .cons (.own _) (.cons (.own _) (.cons (.own _) .nil)), kit3 (T.i_NoBounds_NoAddress _ _ hC ak_NoAddress) (T.i_NoBounds_NoFields _ _ hC ak_NoFields) (T.i_NoBounds_NoNumber _ _ hC ak_NoNumber), ?_⟩
        refine ⟨_, rfl, ?_⟩
        refine ⟨sz (by simp), fun L hL => ?_⟩
        have e3 := updK (u := _) n1 e1 (o := .tup [.ref p_NoAddress, .ref p_NoFields, .ref p_NoNumber])
        have e4 := updK (u := _) n2 e2 (o := .tup [.ref p_NoAddress, .ref p_NoFields, .ref p_NoNumber])
        refine ⟨_, rfl, a, C, d, _, _, _, true, rfl, updK (ne_of_none e3 hL) e3, updK (ne_of_none e4 hL) e4, T.e_NoBounds _ hC, .ty _, T.i_NoBounds_ValueError _ hC, ?_⟩
        refine .inr ⟨_, rfl, ?_⟩
        refine ⟨L, _, 1, _, rfl, rfl, .of upd_same, atI_nat (j := 1) rfl, ?_⟩
        have q2 : ∀ H', Same H H' → Q (.str (Str.ofString "none")) H' := fun H' s' => by
          have z := q H' s'
          rw [ok] at z
          exact z
        exact q2 _ (sameN (sameN sm2 htp) hL)
    · refine ⟨_, rfl, rfl, _, rfl, ifd (fun c => by cases c) (fun _ => ?_)⟩
      refine ⟨_, rfl, rfl, _, rfl, ifd (fun _ => ?_) (fun c => absurd rfl c)⟩
      refine ⟨_, rfl, _, rfl, x, y, o, p, rfl, hx, hy, fun lo hi e1 e2 hb b H1 sm hs => ?_, fun bad C d v H1 hC sm hd => ?_⟩
      · have ok : okd 1 o p = true := by subst e1 e2; cases hx; cases hy; exact decide_eq_true hb
        have z := q H1 sm
        refine ⟨_, rfl, rfl, _, rfl, ifd (fun _ => ?_) (fun c => absurd rfl c)⟩
        rw [if_pos ok] at z
        exact z
      · have ok : okd 1 o p = false := bad
        refine ⟨true, T.x_NoBounds_ReachError _ _ hC ak_ReachError, fun _ a na => ?_, fun z => nomatch z⟩
        refine ⟨_, rfl, ?_⟩
        have nd : d ≠ a := ne_of_none upd_same na
        have e1 : (upd (upd H1 d (.xd [("text", v)])) a (kept a (.ref C) (some d))) a = some (kept a (.ref C) (some d)) := upd_same
        have e2 : (upd (upd H1 d (.xd [("text", v)])) a (kept a (.ref C) (some d))) d = some (.xd [("text", v)]) := by rw [upd_ne nd, upd_same]
        have sm2 : Same H (upd (upd H1 d (.xd [("text", v)])) a (kept a (.ref C) (some d))) := sameN (sameN sm hd) na
        refine ⟨_, rfl, rfl, _, rfl, ifd (fun c => by cases c) (fun _ => ?_)⟩
        generalize upd (upd H1 d (.xd [("text", v)])) a (kept a (.ref C) (some d)) = H2 at e1 e2 sm2 ⊢
        refine ⟨_, rfl, a, C, d, _, _, _, true, rfl, e1, e2, T.e_NoBounds _ hC, .own _, T.i_NoBounds_NoBounds _ _ hC ak_NoBounds, ?_⟩
        refine ⟨_, rfl, ifnb (fun e => by cases e) (fun _ => ?_)⟩
        refine ⟨_, rfl, sz (by simp), fun tp htp => ?_⟩
        have n1 := ne_of_none e1 htp
        have n2 := ne_of_none e2 htp
        refine ⟨a, C, d, _, tp, _, _, false, rfl, updK n1 e1, updK n2 e2, T.e_NoBounds _ hC, upd_same, .cons (.own _) (.cons (.own _) (.cons (.own _) .nil)), kit3 (T.i_NoBounds_NoAddress _ _ hC ak_NoAddress) (T.i_NoBounds_NoFields _ _ hC ak_NoFields) (T.i_NoBounds_NoNumber _ _ hC ak_NoNumber), ?_⟩
        refine ⟨_, rfl, ?_⟩
        refine ⟨sz (by simp), fun L hL => ?_⟩
        have e3 := updK (u := _) n1 e1 (o := .tup [.ref p_NoAddress, .ref p_NoFields, .ref p_NoNumber])
        have e4 := updK (u := _) n2 e2 (o := .tup [.ref p_NoAddress, .ref p_NoFields, .ref p_NoNumber])
        refine ⟨_, rfl, a, C, d, _, _, _, true, rfl, updK (ne_of_none e3 hL) e3, updK (ne_of_none e4 hL) e4, T.e_NoBounds _ hC, .ty _, T.i_NoBounds_ValueError _ hC, ?_⟩
        refine .inr ⟨_, rfl, ?_⟩
        refine ⟨L, _, 1, _, rfl, rfl, .of upd_same, atI_nat (j := 1) rfl, ?_⟩
        have q2 : ∀ H', Same H H' → Q (.str (Str.ofString "none")) H' := fun H' s' => by
          have z := q H' s'
          rw [ok] at z
          exact z
        exact q2 _ (sameN (sameN sm2 htp) hL)
    · refine ⟨_, rfl, rfl, _, rfl, ifd (fun c => by cases c) (fun _ => ?_)⟩
      refine ⟨_, rfl, rfl, _, rfl, ifd (fun c => by cases c) (fun _ => ?_)⟩
      refine ⟨_, rfl, rfl, _, rfl, ifd (fun _ => ?_) (fun c => absurd rfl c)⟩
      refine ⟨_, rfl, _, rfl, x, y, o, p, rfl, hx, hy, fun lo hi e1 e2 hb s p1 hs hp1 => ?_, fun bad C d v H1 hC sm hd => ?_⟩
      · have ok : okd 2 o p = true := by subst e1 e2; cases hx; cases hy; exact decide_eq_true hb
        have sm := same_new (o := .tup [.int s, .int (lo / 2 ^ s), .int (Dd lo hi s + 1)]) hp1
        have z := q _ sm
        refine ⟨_, rfl, rfl, _, rfl, ifd (fun _ => ?_) (fun c => absurd rfl c)⟩
        rw [if_pos ok] at z
        exact z
      · have ok : okd 2 o p = false := bad
        refine ⟨true, T.x_NoBounds_ReachError _ _ hC ak_ReachError, fun _ a na => ?_, fun z => nomatch z⟩
        refine ⟨_, rfl, ?_⟩
        have nd : d ≠ a := ne_of_none upd_same na
        have e1 : (upd (upd H1 d (.xd [("text", v)])) a (kept a (.ref C) (some d))) a = some (kept a (.ref C) (some d)) := upd_same
        have e2 : (upd (upd H1 d (.xd [("text", v)])) a (kept a (.ref C) (some d))) d = some (.xd [("text", v)]) := by rw [upd_ne nd, upd_same]
        have sm2 : Same H (upd (upd H1 d (.xd [("text", v)])) a (kept a (.ref C) (some d))) := sameN (sameN sm hd) na
        refine ⟨_, rfl, rfl, _, rfl, ifd (fun c => by cases c) (fun _ => ?_)⟩
        generalize upd (upd H1 d (.xd [("text", v)])) a (kept a (.ref C) (some d)) = H2 at e1 e2 sm2 ⊢
        refine ⟨_, rfl, a, C, d, _, _, _, true, rfl, e1, e2, T.e_NoBounds _ hC, .own _, T.i_NoBounds_NoBounds _ _ hC ak_NoBounds, ?_⟩
        refine ⟨_, rfl, ifnb (fun e => by cases e) (fun _ => ?_)⟩
        refine ⟨_, rfl, sz (by simp), fun tp htp => ?_⟩
        have n1 := ne_of_none e1 htp
        have n2 := ne_of_none e2 htp
        refine ⟨a, C, d, _, tp, _, _, false, rfl, updK n1 e1, updK n2 e2, T.e_NoBounds _ hC, upd_same, .cons (.own _) (.cons (.own _) (.cons (.own _) .nil)), kit3 (T.i_NoBounds_NoAddress _ _ hC ak_NoAddress) (T.i_NoBounds_NoFields _ _ hC ak_NoFields) (T.i_NoBounds_NoNumber _ _ hC ak_NoNumber), ?_⟩
        refine ⟨_, rfl, ?_⟩
        refine ⟨sz (by simp), fun L hL => ?_⟩
        have e3 := updK (u := _) n1 e1 (o := .tup [.ref p_NoAddress, .ref p_NoFields, .ref p_NoNumber])
        have e4 := updK (u := _) n2 e2 (o := .tup [.ref p_NoAddress, .ref p_NoFields, .ref p_NoNumber])
        refine ⟨_, rfl, a, C, d, _, _, _, true, rfl, updK (ne_of_none e3 hL) e3, updK (ne_of_none e4 hL) e4, T.e_NoBounds _ hC, .ty _, T.i_NoBounds_ValueError _ hC, ?_⟩
        refine .inr ⟨_, rfl, ?_⟩
        refine ⟨L, _, 1, _, rfl, rfl, .of upd_same, atI_nat (j := 1) rfl, ?_⟩
        have q2 : ∀ H', Same H H' → Q (.str (Str.ofString "none")) H' := fun H' s' => by
          have z := q H' s'
          rw [ok] at z
          exact z
        exact q2 _ (sameN (sameN sm2 htp) hL)
    · refine ⟨_, rfl, rfl, _, rfl, ifd (fun c => by cases c) (fun _ => ?_)⟩
      refine ⟨_, rfl, rfl, _, rfl, ifd (fun c => by cases c) (fun _ => ?_)⟩
      refine ⟨_, rfl, rfl, _, rfl, ifd (fun c => by cases c) (fun _ => ?_)⟩
      refine ⟨_, rfl, rfl, _, rfl, ifd (fun _ => ?_) (fun c => absurd rfl c)⟩
      refine ⟨_, rfl, _, rfl, x, y, o, p, rfl, hx, hy, fun lo hi e1 e2 hb s hs => ?_, fun bad C d v H1 hC sm hd => ?_⟩
      · have ok : okd 3 o p = true := by subst e1 e2; cases hx; cases hy; exact decide_eq_true hb
        have z := q H (Same.refl _)
        refine ⟨_, rfl, rfl, _, rfl, ifd (fun _ => ?_) (fun c => absurd rfl c)⟩
        rw [if_pos ok] at z
        exact z
      · have ok : okd 3 o p = false := bad
        refine ⟨true, T.x_NoBounds_ReachError _ _ hC ak_ReachError, fun _ a na => ?_, fun z => nomatch z⟩
        refine ⟨_, rfl, ?_⟩
        have nd : d ≠ a := ne_of_none upd_same na
        have e1 : (upd (upd H1 d (.xd [("text", v)])) a (kept a (.ref C) (some d))) a = some (kept a (.ref C) (some d)) := upd_same
        have e2 : (upd (upd H1 d (.xd [("text", v)])) a (kept a (.ref C) (some d))) d = some (.xd [("text", v)]) := by rw [upd_ne nd, upd_same]
        have sm2 : Same H (upd (upd H1 d (.xd [("text", v)])) a (kept a (.ref C) (some d))) := sameN (sameN sm hd) na
        refine ⟨_, rfl, rfl, _, rfl, ifd (fun c => by cases c) (fun _ => ?_)⟩
        generalize upd (upd H1 d (.xd [("text", v)])) a (kept a (.ref C) (some d)) = H2 at e1 e2 sm2 ⊢
        refine ⟨_, rfl, a, C, d, _, _, _, true, rfl, e1, e2, T.e_NoBounds _ hC, .own _, T.i_NoBounds_NoBounds _ _ hC ak_NoBounds, ?_⟩
        refine ⟨_, rfl, ifnb (fun e => by cases e) (fun _ => ?_)⟩
        refine ⟨_, rfl, sz (by simp), fun tp htp => ?_⟩
        have n1 := ne_of_none e1 htp
        have n2 := ne_of_none e2 htp
        refine ⟨a, C, d, _, tp, _, _, false, rfl, updK n1 e1, updK n2 e2, T.e_NoBounds _ hC, upd_same, .cons (.own _) (.cons (.own _) (.cons (.own _) .nil)), kit3 (T.i_NoBounds_NoAddress _ _ hC ak_NoAddress) (T.i_NoBounds_NoFields _ _ hC ak_NoFields) (T.i_NoBounds_NoNumber _ _ hC ak_NoNumber), ?_⟩
        refine ⟨_, rfl, ?_⟩
        refine ⟨sz (by simp), fun L hL => ?_⟩
        have e3 := updK (u := _) n1 e1 (o := .tup [.ref p_NoAddress, .ref p_NoFields, .ref p_NoNumber])
        have e4 := updK (u := _) n2 e2 (o := .tup [.ref p_NoAddress, .ref p_NoFields, .ref p_NoNumber])
        refine ⟨_, rfl, a, C, d, _, _, _, true, rfl, updK (ne_of_none e3 hL) e3, updK (ne_of_none e4 hL) e4, T.e_NoBounds _ hC, .ty _, T.i_NoBounds_ValueError _ hC, ?_⟩
        refine .inr ⟨_, rfl, ?_⟩
        refine ⟨L, _, 1, _, rfl, rfl, .of upd_same, atI_nat (j := 1) rfl, ?_⟩
        have q2 : ∀ H', Same H H' → Q (.str (Str.ofString "none")) H' := fun H' s' => by
          have z := q H' s'
          rw [ok] at z
          exact z
        exact q2 _ (sameN (sameN sm2 htp) hL)
    · refine ⟨_, rfl, rfl, _, rfl, ifd (fun c => by cases c) (fun _ => ?_)⟩
      refine ⟨_, rfl, rfl, _, rfl, ifd (fun c => by cases c) (fun _ => ?_)⟩
      refine ⟨_, rfl, rfl, _, rfl, ifd (fun c => by cases c) (fun _ => ?_)⟩
      refine ⟨_, rfl, rfl, _, rfl, ifd (fun c => by cases c) (fun _ => ?_)⟩
      refine ⟨_, rfl, x, o, rfl, hx, fun n e1 hb s p1 H1 hs sm hp1 hp2 => ?_, fun bad C d v H1 hC sm hd => ?_⟩
      · have ok : okd 4 o p = true := by subst e1; cases hx; exact decide_eq_true hb
        have z := q H1 sm
        refine ⟨_, rfl, rfl, _, rfl, ifd (fun _ => ?_) (fun c => absurd rfl c)⟩
        rw [if_pos ok] at z
        exact z
      · have ok : okd 4 o p = false := bad
        refine ⟨true, T.x_NoBounds_ReachError _ _ hC ak_ReachError, fun _ a na => ?_, fun z => nomatch z⟩
        refine ⟨_, rfl, ?_⟩
        have nd : d ≠ a := ne_of_none upd_same na
        have e1 : (upd (upd H1 d (.xd [("text", v)])) a (kept a (.ref C) (some d))) a = some (kept a (.ref C) (some d)) := upd_same
        have e2 : (upd (upd H1 d (.xd [("text", v)])) a (kept a (.ref C) (some d))) d = some (.xd [("text", v)]) := by rw [upd_ne nd, upd_same]
        have sm2 : Same H (upd (upd H1 d (.xd [("text", v)])) a (kept a (.ref C) (some d))) := sameN (sameN sm hd) na
        refine ⟨_, rfl, rfl, _, rfl, ifd (fun c => by cases c) (fun _ => ?_)⟩
        generalize upd (upd H1 d (.xd [("text", v)])) a (kept a (.ref C) (some d)) = H2 at e1 e2 sm2 ⊢
        refine ⟨_, rfl, a, C, d, _, _, _, true, rfl, e1, e2, T.e_NoBounds _ hC, .own _, T.i_NoBounds_NoBounds _ _ hC ak_NoBounds, ?_⟩
        refine ⟨_, rfl, ifnb (fun e => by cases e) (fun _ => ?_)⟩
        refine ⟨_, rfl, sz (by simp), fun tp htp => ?_⟩
        have n1 := ne_of_none e1 htp
        have n2 := ne_of_none e2 htp
        refine ⟨a, C, d, _, tp, _, _, false, rfl, updK n1 e1, updK n2 e2, T.e_NoBounds _ hC, upd_same, .cons (.own _) (.cons (.own _) (.cons (.own _) .nil)), kit3 (T.i_NoBounds_NoAddress _ _ hC ak_NoAddress) (T.i_NoBounds_NoFields _ _ hC ak_NoFields) (T.i_NoBounds_NoNumber _ _ hC ak_NoNumber), ?_⟩
        refine ⟨_, rfl, ?_⟩
        refine ⟨sz (by simp), fun L hL => ?_⟩
        have e3 := updK (u := _) n1 e1 (o := .tup [.ref p_NoAddress, .ref p_NoFields, .ref p_NoNumber])
        have e4 := updK (u := _) n2 e2 (o := .tup [.ref p_NoAddress, .ref p_NoFields, .ref p_NoNumber])
        refine ⟨_, rfl, a, C, d, _, _, _, true, rfl, updK (ne_of_none e3 hL) e3, updK (ne_of_none e4 hL) e4, T.e_NoBounds _ hC, .ty _, T.i_NoBounds_ValueError _ hC, ?_⟩
        refine .inr ⟨_, rfl, ?_⟩
        refine ⟨L, _, 1, _, rfl, rfl, .of upd_same, atI_nat (j := 1) rfl, ?_⟩
        have q2 : ∀ H', Same H H' → Q (.str (Str.ofString "none")) H' := fun H' s' => by
          have z := q H' s'
          rw [ok] at z
          exact z
        exact q2 _ (sameN (sameN sm2 htp) hL)

theorem ok_law {f : Addr} {oc kV dc pm cdv ct : Value} {od an : Option Addr} {osl : Array (Option Value)} (lk : K.lookup f = some ⟨oc, od, .func (PySem.W.fnOf "law" "law" (defArgs s_law) (defBody s_law) (defScope s_law) .none kV dc pm an cdv ct), osl⟩) (hcd : PySem.W.codeIn K cdv "law" = true) (T : Txt K mg) (C__law_pool : Cal P w K mg base "_law_pool" 1 ["_law_script", "_law_k"] (sp__law_pool K)) (C__law_odd : Cal P w K mg base "_law_odd" 2 ["_law_pool_here"] (sp__law_odd K)) (C__law_is_number : Cal P w K mg base "_law_is_number" 1 ["_law_thing", "_law_least", "_law_most"] (sp__law_is_number K)) (C__law_said : Cal P w K mg base "_law_said" 7 ["_law_door", "_law_low", "_law_high"] (sp__law_said K)) {s : Shared} {H : Hp} {a : Addr} {ns : List Int} (e0 : Env0 P w K mg base callerA [] s H) (hS : SqL K H a (ns.map V.int)) (hlen : ns.length ≤ 63) :
    codeAny (model P w) callerA (.call (.ref f) ⟨[.ref a], []⟩) (CR CX0 [] P w H s (fun v _ => v = .bl true) fun _ _ _ => False) s := by
  have hr : Room 7 (callerA.deeper (envOfC "law" (defScope s_law) s.heap.objs.size f cdv)) := Room.deeper (k := 7) ⟨rfl, by decide, by decide⟩ _
  have gd : (callerA.deeper (envOfC "law" (defScope s_law) s.heap.objs.size f cdv)).guards = some [] := caller_guards
  generalize hQ : (fun (v : V) (_ : Hp) => v = V.bl true) = Q
  have q : ∀ H', Q (.bl true) H' := fun _ => by rw [← hQ]
  refine body_at (N := ["_law_script", "_law_k", "_law_pool_here", "_law_turn", "_law_low", "_law_high", "_law_are", "_law_door"]) (ps := ["_law_script"]) (vs := [.ref a]) (us := [.ref a]) lk hcd sc_law rfl (k := 7) ⟨rfl, by decide, by decide⟩ e0 (.of_eq rfl) (.cons rfl .nil) ?_
  refine ⟨_, PSs.nox (pss_cons (ps_for PassesOwn.never rfl (pi_range1 (by rfl) T.z_range (pa_cons (pe_callB (call_max2 rfl) (by rfl) T.z_max (by decide +kernel) (pa_cons pe_int (pa_cons (pe_callB (call_min2 rfl) (by rfl) T.z_min (by decide +kernel) (pa_cons (pe_callB call_len_seq (by rfl) T.z_len (by decide +kernel) (pa_cons (pv 0) pa_nil)) (pa_cons pe_int pa_nil))) pa_nil))) pa_nil)) (pg_name (i := 1) sc_law.nd rfl (.inl rfl)) (pss_cons (ps_set (i := 2) sc_law.nd rfl (.inl rfl) (pe_cal C__law_pool (hr.mono (by decide)) (pa_cons (pv 0) (pa_cons (pv 1) pa_nil))))
      (pss_one (ps_for PassesOwn.never rfl (pi_range1 (by rfl) T.z_range (pa_cons pe_int pa_nil)) (pg_name (i := 3) sc_law.nd rfl (.inl rfl)) (pss_cons (ps_par (i := 4) (j := 5) rfl sc_law.nd rfl rfl (by decide) rfl rfl (pa_cons (pe_cal C__law_odd (hr.mono (by decide)) (pa_cons (pv 2) pa_nil)) (pa_cons (pe_cal C__law_odd (hr.mono (by decide)) (pa_cons (pv 2) pa_nil)) pa_nil)) (by rfl))
      (pss_cons (ps_set (i := 6) sc_law.nd rfl (.inl rfl) (pe_and (pe_cal C__law_is_number (hr.mono (by decide)) (pa_cons (pv 4) (pa_cons pe_int (pa_cons pe_int pa_nil)))) (pe_and (pe_cal C__law_is_number (hr.mono (by decide)) (pa_cons (pv 5) (pa_cons pe_int (pa_cons pe_int pa_nil)))) (pe_one (pe_cmpR op_lt (pv 4) (pv 5) (nomark _))))))
      (pss_cons (ps_for PassesOwn.never rfl (pi_range1 (by rfl) T.z_range (pa_cons pe_int pa_nil)) (pg_name (i := 7) sc_law.nd rfl (.inl rfl)) (pss_one (ps_if (pt_cmpR op_ne (pe_cal C__law_said (hr.mono (by decide)) (pa_cons (pv 7) (pa_cons (pv 4) (pa_cons (pv 5) pa_nil)))) (pe_ix (r := rIxL K) ix_list (pe_lst (pa_cons pe_str (pa_cons pe_str pa_nil))) (pe_callTy call_int1 (by rfl) T.z_int (by decide +kernel) (pa_cons (pv 6) pa_nil)) (fun _ _ => rfl)) (nomark _)) (pss_one (ps_ret pe_bl)) pss_nil)))
      (pss_one (ps_if (pt_cmpR op_ne (pe_cal C__law_said (hr.mono (by decide)) (pa_cons pe_int (pa_cons (pv 4) (pa_cons (pv 5) pa_nil)))) (pe_ix (r := rIxL K) ix_list (pe_lst (pa_cons pe_str (pa_cons pe_str pa_nil))) (pe_callTy call_int1 (by rfl) T.z_int (by decide +kernel) (pa_cons (pe_cal C__law_is_number (hr.mono (by decide)) (pa_cons (pv 4) (pa_cons pe_int (pa_cons pe_int pa_nil)))) pa_nil)) (fun _ _ => rfl)) (nomark _)) (pss_one (ps_ret pe_bl)) pss_nil)))))))))
      (pss_one (ps_ret pe_bl))), ?_⟩
  refine ⟨_, rfl, a, _, rfl, .inl hS, _, _, rfl, _, _, rfl, _, rfl, rep_lo (c := 8) (by decide) (by decide), rep_hi (c := 8) (by decide) (by decide), for_range (fun i σ H' => ∃ v1 v2 v3 v4 v5 v6 v7, σ = [some (.ref a), v1, v2, v3, v4, v5, v6, v7] ∧ Same H H') ⟨_, _, _, _, _, _, _, rfl, Same.refl _⟩ ?_ ?_⟩
  · rintro i σ H3 hi ⟨v1, v2, v3, v4, v5, v6, v7, rfl, s3⟩
    have hi63 := rep_i (c := 8) (by decide) (by decide) hi
    rw [i0]
    refine ⟨_, rfl, _, rfl, a, ns, i, rfl, s3.seq hS, hlen, hi63, fun x y p H4 sm4 hp0 P4 => ?_⟩
    refine ⟨12, rfl, by decide, by decide, for_range (n := 12) (fun j σ H' => ∃ v3 v4 v5 v6 v7 x y, σ = [some (.ref a), some (.int (i : Int)), some (.ref p), v3, v4, v5, v6, v7] ∧ But p H4 H' ∧ Pool H' p x y) ⟨_, _, _, _, _, x, y, rfl, But.refl _ _, P4⟩ ?_ ?_⟩
    · rintro j σ H5 hj ⟨w3, w4, w5, w6, w7, x5, y5, rfl, B5, P5⟩
      refine ⟨_, rfl, p, x5, y5, rfl, P5, fun u1 o1 x6 y6 H6 B6 P6 h1 n1 => ?_⟩
      refine ⟨_, rfl, p, x6, y6, rfl, P6, fun u2 o2 x7 y7 H7 B7 P7 h2 n2 => ?_⟩
      have h1' := h1.but B7 n1
      clear h1
      have B47 := (B5.trans B6).trans B7
      refine ⟨_, _, rfl, ?_⟩
      refine' with_finB (A := fun b => b = are o1 o2) ?h ?k
      case k =>
        intro fin
        refine ⟨_, rfl, _, _, _, _, rfl, h1', _, rfl, ifb (fun e => ?_) (fun e => ?_)⟩
        · obtain ⟨z1, f1, a1, a2⟩ := wh_ok e
          refine ⟨_, rfl, _, _, _, _, rfl, h2, _, rfl, ifb (fun e2 => ?_) (fun e2 => ?_)⟩
          · obtain ⟨z2, f2, b1, b2⟩ := wh_ok e2
            refine ⟨_, rfl, _, rfl, z1, z2, (f1 ▸ h1').num, (f2 ▸ h2).num, ?_⟩
            have z : are o1 o2 = decide (z1 < z2) := by
              rw [f1, f2, are_int]
              by_cases c : z1 < z2
              · simp [c, a1, b2]
              · simp [c]
            dsimp only
            generalize hd : decide (z1 < z2) = b
            exact fin b (by rw [z, hd])
          · exact fin false (are_wh (.inr e2)).symm
        · exact fin false (are_wh (.inl e)).symm
      case h =>
        intro b hb
        cases b with
        | true => 
          refine ⟨4, rfl, by decide, by decide, for_range (n := 4) (fun m σ H' => ∃ v7, σ = [some (.ref a), some (.int (i : Int)), some (.ref p), some (.int (0 + (j : Int))), some u1, some u2, some (.bl true), v7] ∧ Same H7 H') ⟨_, rfl, Same.refl _⟩ ?_ ?_⟩
          · rintro m σ H8 hm ⟨v7, rfl, s8⟩
            refine ⟨_, rfl, _, rfl, _, rfl, _, u1, u2, o1, o2, rfl, by omega, by omega, h1'.same s8, h2.same s8, fun H9 s9 => ⟨sz (by simp), fun L hL => ?_⟩⟩
            refine ⟨_, rfl, .inr ⟨_, rfl, ?_⟩⟩
            refine ⟨L, _, 1, _, rfl, rfl, .of upd_same, atI_nat (j := 1) rfl, rfl, _, rfl, ifnd (fun c => absurd ?_ c) (fun _ => ?_)⟩
            · rw [okd_lo hm, ← hb]; rfl
            · exact ⟨_, rfl, sameN (s8.trans s9) hL⟩
          · rintro σ H8 ⟨v7, rfl, s8⟩
            refine ⟨_, rfl, _, rfl, 4, u1, u2, o1, o2, rfl, by decide, by decide, h1'.same s8, h2.same s8, fun H9 s9 => ⟨sz (by simp), fun L hL => ?_⟩⟩
            have h10 := (h1'.same (s8.trans s9)).same (same_new (o := .lst [.str (Str.ofString "none"), .str (Str.ofString "told")]) hL)
            refine ⟨_, rfl, _, _, _, _, rfl, h10, .inr ⟨_, rfl, ?_⟩⟩
            have fin2 : But p H4 (upd H9 L (.lst [.str (Str.ofString "none"), .str (Str.ofString "told")])) ∧ Pool (upd H9 L (.lst [.str (Str.ofString "none"), .str (Str.ofString "told")])) p x7 y7 := by
              have s10 := sameN (o := .lst [.str (Str.ofString "none"), .str (Str.ofString "told")]) (s8.trans s9) hL
              exact ⟨B47.trans (But.of s10), s10 _ _ P7.1, P7.2⟩
            have ek : okd 4 o1 o2 = wh o1 1 4096 := are0 o1
            cases hw : wh o1 1 4096 with
            | true =>
              refine ⟨L, _, _, .str (Str.ofString "told"), rfl, rfl, .of upd_same, atI_nat (j := 1) rfl, rfl, _, rfl, ifnd (fun c => absurd ?_ c) (fun _ => ?_)⟩
              · rw [ek, hw]; rfl
              · exact ⟨_, _, _, _, _, _, _, rfl, fin2⟩
            | false =>
              refine ⟨L, _, _, .str (Str.ofString "none"), rfl, rfl, .of upd_same, atI_nat (j := 0) rfl, rfl, _, rfl, ifnd (fun c => absurd ?_ c) (fun _ => ?_)⟩
              · rw [ek, hw]; rfl
              · exact ⟨_, _, _, _, _, _, _, rfl, fin2⟩
        | false => 
          refine ⟨4, rfl, by decide, by decide, for_range (n := 4) (fun m σ H' => ∃ v7, σ = [some (.ref a), some (.int (i : Int)), some (.ref p), some (.int (0 + (j : Int))), some u1, some u2, some (.bl false), v7] ∧ Same H7 H') ⟨_, rfl, Same.refl _⟩ ?_ ?_⟩
          · rintro m σ H8 hm ⟨v7, rfl, s8⟩
            refine ⟨_, rfl, _, rfl, _, rfl, _, u1, u2, o1, o2, rfl, by omega, by omega, h1'.same s8, h2.same s8, fun H9 s9 => ⟨sz (by simp), fun L hL => ?_⟩⟩
            refine ⟨_, rfl, .inr ⟨_, rfl, ?_⟩⟩
            refine ⟨L, _, 0, _, rfl, rfl, .of upd_same, atI_nat (j := 0) rfl, rfl, _, rfl, ifnd (fun c => absurd ?_ c) (fun _ => ?_)⟩
            · rw [okd_lo hm, ← hb]; rfl
            · exact ⟨_, rfl, sameN (s8.trans s9) hL⟩
          · rintro σ H8 ⟨v7, rfl, s8⟩
            refine ⟨_, rfl, _, rfl, 4, u1, u2, o1, o2, rfl, by decide, by decide, h1'.same s8, h2.same s8, fun H9 s9 => ⟨sz (by simp), fun L hL => ?_⟩⟩
            have h10 := (h1'.same (s8.trans s9)).same (same_new (o := .lst [.str (Str.ofString "none"), .str (Str.ofString "told")]) hL)
            refine ⟨_, rfl, _, _, _, _, rfl, h10, .inr ⟨_, rfl, ?_⟩⟩
            have fin2 : But p H4 (upd H9 L (.lst [.str (Str.ofString "none"), .str (Str.ofString "told")])) ∧ Pool (upd H9 L (.lst [.str (Str.ofString "none"), .str (Str.ofString "told")])) p x7 y7 := by
              have s10 := sameN (o := .lst [.str (Str.ofString "none"), .str (Str.ofString "told")]) (s8.trans s9) hL
              exact ⟨B47.trans (But.of s10), s10 _ _ P7.1, P7.2⟩
            have ek : okd 4 o1 o2 = wh o1 1 4096 := are0 o1
            cases hw : wh o1 1 4096 with
            | true =>
              refine ⟨L, _, _, .str (Str.ofString "told"), rfl, rfl, .of upd_same, atI_nat (j := 1) rfl, rfl, _, rfl, ifnd (fun c => absurd ?_ c) (fun _ => ?_)⟩
              · rw [ek, hw]; rfl
              · exact ⟨_, _, _, _, _, _, _, rfl, fin2⟩
            | false =>
              refine ⟨L, _, _, .str (Str.ofString "none"), rfl, rfl, .of upd_same, atI_nat (j := 0) rfl, rfl, _, rfl, ifnd (fun c => absurd ?_ c) (fun _ => ?_)⟩
              · rw [ek, hw]; rfl
              · exact ⟨_, _, _, _, _, _, _, rfl, fin2⟩
    · rintro σ H5 ⟨w3, w4, w5, w6, w7, x5, y5, rfl, B5, P5⟩
      exact ⟨_, _, _, _, _, _, _, rfl, same_pool (s3.trans sm4) (s3.free hp0) B5⟩
  · rintro σ H3 ⟨v1, v2, v3, v4, v5, v6, v7, rfl, s3⟩
    exact q _
end
theorem all_mk {l : PySem.W.OpenLaw} {w : World} {K : PySem.W.Frag} {h : Heap} {mg : Str → Option Value} {fa f0 f1 f2 f3 f4 f5 f6 f7 f8 f9 f10 f11 f12 f13 f14 f15 : Addr} (X : K.In h) (G : h.Ns mainGlobals mg) (hfa : mg "law" = some (.ref fa))
    {od0 an0 od1 an1 od2 an2 od3 an3 od4 an4 od5 an5 od6 an6 od7 an7 od8 an8 od9 an9 od10 an10 od11 an11 od12 an12 od13 an13 od14 an14 od15 an15 : Option Addr} {sl0 sl1 sl2 sl3 sl4 sl5 sl6 sl7 sl8 sl9 sl10 sl11 sl12 sl13 sl14 sl15 : Array (Option Value)} {oc0 kV0 dc0 pm0 cd0 ct0 oc1 kV1 dc1 pm1 cd1 ct1 oc2 kV2 dc2 pm2 cd2 ct2 oc3 kV3 dc3 pm3 cd3 ct3 oc4 kV4 dc4 pm4 cd4 ct4 oc5 kV5 dc5 pm5 cd5 ct5 oc6 kV6 dc6 pm6 cd6 ct6 oc7 kV7 dc7 pm7 cd7 ct7 oc8 kV8 dc8 pm8 cd8 ct8 oc9 kV9 dc9 pm9 cd9 ct9 oc10 kV10 dc10 pm10 cd10 ct10 oc11 kV11 dc11 pm11 cd11 ct11 oc12 kV12 dc12 pm12 cd12 ct12 oc13 kV13 dc13 pm13 cd13 ct13 oc14 kV14 dc14 pm14 cd14 ct14 oc15 kV15 dc15 pm15 cd15 ct15 : Value}
    (a0 : PySem.W.nsIn K mainGlobals "is_whole" = some (some (.ref f0))) (l0 : K.lookup f0 = some ⟨oc0, od0, .func (PySem.W.fnOf "is_whole" "is_whole" (defArgs s_is_whole) (defBody s_is_whole) (defScope s_is_whole) .none kV0 dc0 pm0 an0 cd0 ct0), sl0⟩) (c0 : PySem.W.codeIn K cd0 "is_whole" = true) (k0 : PySem.W.keepIn K (.ref f0) = true)
    (a1 : PySem.W.nsIn K mainGlobals "are_bounds" = some (some (.ref f1))) (l1 : K.lookup f1 = some ⟨oc1, od1, .func (PySem.W.fnOf "are_bounds" "are_bounds" (defArgs s_are_bounds) (defBody s_are_bounds) (defScope s_are_bounds) .none kV1 dc1 pm1 an1 cd1 ct1), sl1⟩) (c1 : PySem.W.codeIn K cd1 "are_bounds" = true) (k1 : PySem.W.keepIn K (.ref f1) = true)
    (a2 : PySem.W.nsIn K mainGlobals "look_at_bounds" = some (some (.ref f2))) (l2 : K.lookup f2 = some ⟨oc2, od2, .func (PySem.W.fnOf "look_at_bounds" "look_at_bounds" (defArgs s_look_at_bounds) (defBody s_look_at_bounds) (defScope s_look_at_bounds) .none kV2 dc2 pm2 an2 cd2 ct2), sl2⟩) (c2 : PySem.W.codeIn K cd2 "look_at_bounds" = true) (k2 : PySem.W.keepIn K (.ref f2) = true)
    (a3 : PySem.W.nsIn K mainGlobals "_steps_over" = some (some (.ref f3))) (l3 : K.lookup f3 = some ⟨oc3, od3, .func (PySem.W.fnOf "_steps_over" "_steps_over" (defArgs s__steps_over) (defBody s__steps_over) (defScope s__steps_over) .none kV3 dc3 pm3 an3 cd3 ct3), sl3⟩) (c3 : PySem.W.codeIn K cd3 "_steps_over" = true) (k3 : PySem.W.keepIn K (.ref f3) = true)
    (a4 : PySem.W.nsIn K mainGlobals "in_bits" = some (some (.ref f4))) (l4 : K.lookup f4 = some ⟨oc4, od4, .func (PySem.W.fnOf "in_bits" "in_bits" (defArgs s_in_bits) (defBody s_in_bits) (defScope s_in_bits) .none kV4 dc4 pm4 an4 cd4 ct4), sl4⟩) (c4 : PySem.W.codeIn K cd4 "in_bits" = true) (k4 : PySem.W.keepIn K (.ref f4) = true)
    (a5 : PySem.W.nsIn K mainGlobals "least_bounds" = some (some (.ref f5))) (l5 : K.lookup f5 = some ⟨oc5, od5, .func (PySem.W.fnOf "least_bounds" "least_bounds" (defArgs s_least_bounds) (defBody s_least_bounds) (defScope s_least_bounds) .none kV5 dc5 pm5 an5 cd5 ct5), sl5⟩) (c5 : PySem.W.codeIn K cd5 "least_bounds" = true) (k5 : PySem.W.keepIn K (.ref f5) = true)
    (a6 : PySem.W.nsIn K mainGlobals "is_exact" = some (some (.ref f6))) (l6 : K.lookup f6 = some ⟨oc6, od6, .func (PySem.W.fnOf "is_exact" "is_exact" (defArgs s_is_exact) (defBody s_is_exact) (defScope s_is_exact) .none kV6 dc6 pm6 an6 cd6 ct6), sl6⟩) (c6 : PySem.W.codeIn K cd6 "is_exact" = true) (k6 : PySem.W.keepIn K (.ref f6) = true)
    (a7 : PySem.W.nsIn K mainGlobals "room_of" = some (some (.ref f7))) (l7 : K.lookup f7 = some ⟨oc7, od7, .func (PySem.W.fnOf "room_of" "room_of" (defArgs s_room_of) (defBody s_room_of) (defScope s_room_of) .none kV7 dc7 pm7 an7 cd7 ct7), sl7⟩) (c7 : PySem.W.codeIn K cd7 "room_of" = true) (k7 : PySem.W.keepIn K (.ref f7) = true)
    (a8 : PySem.W.nsIn K mainGlobals "_can_begin" = some (some (.ref f8))) (l8 : K.lookup f8 = some ⟨oc8, od8, .func (PySem.W.fnOf "_can_begin" "_can_begin" (defArgs s__can_begin) (defBody s__can_begin) (defScope s__can_begin) .none kV8 dc8 pm8 an8 cd8 ct8), sl8⟩) (c8 : PySem.W.codeIn K cd8 "_can_begin" = true) (k8 : PySem.W.keepIn K (.ref f8) = true)
    (a9 : PySem.W.nsIn K mainGlobals "greatest_high" = some (some (.ref f9))) (l9 : K.lookup f9 = some ⟨oc9, od9, .func (PySem.W.fnOf "greatest_high" "greatest_high" (defArgs s_greatest_high) (defBody s_greatest_high) (defScope s_greatest_high) .none kV9 dc9 pm9 an9 cd9 ct9), sl9⟩) (c9 : PySem.W.codeIn K cd9 "greatest_high" = true) (k9 : PySem.W.keepIn K (.ref f9) = true)
    (a10 : PySem.W.nsIn K mainGlobals "_law_take" = some (some (.ref f10))) (l10 : K.lookup f10 = some ⟨oc10, od10, .func (PySem.W.fnOf "_law_take" "_law_take" (defArgs s__law_take) (defBody s__law_take) (defScope s__law_take) .none kV10 dc10 pm10 an10 cd10 ct10), sl10⟩) (c10 : PySem.W.codeIn K cd10 "_law_take" = true) (k10 : PySem.W.keepIn K (.ref f10) = true)
    (a11 : PySem.W.nsIn K mainGlobals "_law_pool" = some (some (.ref f11))) (l11 : K.lookup f11 = some ⟨oc11, od11, .func (PySem.W.fnOf "_law_pool" "_law_pool" (defArgs s__law_pool) (defBody s__law_pool) (defScope s__law_pool) .none kV11 dc11 pm11 an11 cd11 ct11), sl11⟩) (c11 : PySem.W.codeIn K cd11 "_law_pool" = true) (k11 : PySem.W.keepIn K (.ref f11) = true)
    (a12 : PySem.W.nsIn K mainGlobals "_law_odd" = some (some (.ref f12))) (l12 : K.lookup f12 = some ⟨oc12, od12, .func (PySem.W.fnOf "_law_odd" "_law_odd" (defArgs s__law_odd) (defBody s__law_odd) (defScope s__law_odd) .none kV12 dc12 pm12 an12 cd12 ct12), sl12⟩) (c12 : PySem.W.codeIn K cd12 "_law_odd" = true) (k12 : PySem.W.keepIn K (.ref f12) = true)
    (a13 : PySem.W.nsIn K mainGlobals "_law_is_number" = some (some (.ref f13))) (l13 : K.lookup f13 = some ⟨oc13, od13, .func (PySem.W.fnOf "_law_is_number" "_law_is_number" (defArgs s__law_is_number) (defBody s__law_is_number) (defScope s__law_is_number) .none kV13 dc13 pm13 an13 cd13 ct13), sl13⟩) (c13 : PySem.W.codeIn K cd13 "_law_is_number" = true) (k13 : PySem.W.keepIn K (.ref f13) = true)
    (a14 : PySem.W.nsIn K mainGlobals "_law_said" = some (some (.ref f14))) (l14 : K.lookup f14 = some ⟨oc14, od14, .func (PySem.W.fnOf "_law_said" "_law_said" (defArgs s__law_said) (defBody s__law_said) (defScope s__law_said) .none kV14 dc14 pm14 an14 cd14 ct14), sl14⟩) (c14 : PySem.W.codeIn K cd14 "_law_said" = true) (k14 : PySem.W.keepIn K (.ref f14) = true)
    (a15 : PySem.W.nsIn K mainGlobals "law" = some (some (.ref f15))) (l15 : K.lookup f15 = some ⟨oc15, od15, .func (PySem.W.fnOf "law" "law" (defArgs s_law) (defBody s_law) (defScope s_law) .none kV15 dc15 pm15 an15 cd15 ct15), sl15⟩) (c15 : PySem.W.codeIn K cd15 "law" = true) (k15 : PySem.W.keepIn K (.ref f15) = true)
    (z_ValueError : PySem.W.nsIn K mainGlobals "ValueError" = some none)
    (z_abs : PySem.W.nsIn K mainGlobals "abs" = some none)
    (z_bool : PySem.W.nsIn K mainGlobals "bool" = some none)
    (z_int : PySem.W.nsIn K mainGlobals "int" = some none)
    (z_isinstance : PySem.W.nsIn K mainGlobals "isinstance" = some none)
    (z_len : PySem.W.nsIn K mainGlobals "len" = some none)
    (z_max : PySem.W.nsIn K mainGlobals "max" = some none)
    (z_min : PySem.W.nsIn K mainGlobals "min" = some none)
    (z_range : PySem.W.nsIn K mainGlobals "range" = some none)
    (z_sum : PySem.W.nsIn K mainGlobals "sum" = some none)
    {t_CELLS : Tok} (v_CELLS : PySem.W.nsIn K mainGlobals "CELLS" = some (some (.int 4096 t_CELLS)))
    {t_LEAST_COUNT : Tok} (v_LEAST_COUNT : PySem.W.nsIn K mainGlobals "LEAST_COUNT" = some (some (.int 9 t_LEAST_COUNT)))
    {t_TOP_COUNT : Tok} (v_TOP_COUNT : PySem.W.nsIn K mainGlobals "TOP_COUNT" = some (some (.int 16 t_TOP_COUNT)))
    {t_TOP_STEP : Tok} (v_TOP_STEP : PySem.W.nsIn K mainGlobals "TOP_STEP" = some (some (.int 8 t_TOP_STEP)))
    {C_NoAddress : Addr} (ac_NoAddress : PySem.W.nsIn K mainGlobals "NoAddress" = some (some (.ref C_NoAddress)))
    {C_NoBounds : Addr} (ac_NoBounds : PySem.W.nsIn K mainGlobals "NoBounds" = some (some (.ref C_NoBounds)))
    {C_NoFields : Addr} (ac_NoFields : PySem.W.nsIn K mainGlobals "NoFields" = some (some (.ref C_NoFields)))
    {C_NoNumber : Addr} (ac_NoNumber : PySem.W.nsIn K mainGlobals "NoNumber" = some (some (.ref C_NoNumber)))
    {C_ReachError : Addr} (ac_ReachError : PySem.W.nsIn K mainGlobals "ReachError" = some (some (.ref C_ReachError)))
    {nm_NoBounds q_NoBounds : Str} {N_NoBounds B_NoBounds fi_NoBounds : Addr} {bs_NoBounds : List Value} {sn_NoBounds : List Str} {sub_NoBounds : List Value} {ab_NoBounds : Bool} {col_NoBounds : Option Bool} {dd_NoBounds od_NoBounds an_NoBounds : Option Addr} {m0_NoBounds m1_NoBounds m2_NoBounds m3_NoBounds m5_NoBounds : Option Value} {oc_NoBounds kV_NoBounds dc_NoBounds pm_NoBounds cd_NoBounds ct_NoBounds : Value} {osl_NoBounds : Array (Option Value)}
    (xl_NoBounds : K.lookup C_NoBounds = some (excClassObj nm_NoBounds q_NoBounds C_NoBounds N_NoBounds bs_NoBounds [.ref B_NoBounds, .type "ValueError", .type "Exception", .type "BaseException", .type "object"] true sn_NoBounds sub_NoBounds ab_NoBounds col_NoBounds dd_NoBounds m0_NoBounds m1_NoBounds m2_NoBounds m3_NoBounds m5_NoBounds "ValueError.__new__"))
    (sa_NoBounds : PySem.W.findIn K (.ref C_NoBounds) "__setattr__" = some (some (.builtin "object.__setattr__")))
    (eb_NoBounds : PySem.W.subIn K (.ref C_NoBounds) (.type "BaseException") = some true)
    (ty_NoBounds : PySem.W.typeIn K (.ref C_NoBounds) = some (.type "type"))
    (kc_NoBounds : PySem.W.keepIn K (.ref C_NoBounds) = true)
    (no_NoBounds : PySem.W.findIn K (.ref C_NoBounds) "text" = some none)
    (in_NoBounds : PySem.W.findIn K (.ref C_NoBounds) "__init__" = some (some (.ref fi_NoBounds))) (ti_NoBounds : PySem.W.typeIn K (.ref fi_NoBounds) = some (.type "function"))
    (li_NoBounds : K.lookup fi_NoBounds = some ⟨oc_NoBounds, od_NoBounds, .func (PySem.W.fnOf "__init__" "NoBounds.__init__" (defArgs si_NoBounds) (defBody si_NoBounds) (defScope si_NoBounds) .none kV_NoBounds dc_NoBounds pm_NoBounds an_NoBounds cd_NoBounds ct_NoBounds), osl_NoBounds⟩) (ci_NoBounds : PySem.W.codeIn K cd_NoBounds "NoBounds.__init__" = true) (ki_NoBounds : PySem.W.keepIn K (.ref fi_NoBounds) = true)
    (xb_NoBounds_ReachError : PySem.W.subIn K (.ref C_ReachError) (.type "BaseException") = some true)
    (xh_NoBounds_ReachError : PySem.W.hasDictIn K C_ReachError = true)
    (xt_NoBounds_ReachError : PySem.W.typeIn K (.ref C_ReachError) = some (.type "type"))
    (xs_NoBounds_ReachError : PySem.W.subIn K (.ref C_NoBounds) (.ref C_ReachError) = some true)
    (ecg_NoBounds : PySem.W.findIn K (.ref C_NoBounds) "__getattribute__" = some (some (.builtin "BaseException.__getattribute__")))
    (eck_NoBounds : PySem.W.findIn K (.ref C_NoBounds) "__getattr__" = some none)
    (ecs_NoBounds : PySem.W.subIn K (.ref C_NoBounds) (.type "BaseException") = some true)
    (ecd_NoBounds : PySem.W.hasDictIn K C_NoBounds = true)
    (eca_NoBounds : PySem.W.findIn K (.ref C_NoBounds) "__class__" = some (some (.builtin "object.__class__")))
    (ecn_NoBounds : PySem.W.specialIn K (.builtin "object.__class__") "__get__" = some (some (.builtin "getset_descriptor.__get__")))
    (ect_NoBounds : PySem.W.takesIn K (.builtin "object.__class__") = some true)
    (ecm_NoBounds : PySem.W.mroIn K C_NoBounds (.type "object") = some true)
    (kt_NoBounds_NoBounds : PySem.W.kitOne K (.ref C_NoBounds) (.ref C_NoBounds) = some true)
    (kt_NoBounds_NoAddress : PySem.W.kitOne K (.ref C_NoBounds) (.ref C_NoAddress) = some false)
    (kt_NoBounds_NoFields : PySem.W.kitOne K (.ref C_NoBounds) (.ref C_NoFields) = some false)
    (kt_NoBounds_NoNumber : PySem.W.kitOne K (.ref C_NoBounds) (.ref C_NoNumber) = some false)
    (kt_NoBounds_ValueError : PySem.W.kitOne K (.ref C_NoBounds) (.type "ValueError") = some true)
    : ∀ (base : Heap) (H : Hp) (s : Shared) (a : Addr) (ns : List Int), K.In base → base.Ns mainGlobals mg → Env0 l.prog w K mg base callerA [] s H → SqL K H a (ns.map V.int) → ns.length ≤ 63 → codeAny (model l.prog w) callerA (.call (.ref fa) ⟨[.ref a], []⟩) (CR CX0 [] l.prog w H s (fun v _ => v = .bl true) fun _ _ _ => False) s := by
  have e := hfa.symm.trans (PySem.W.mg_of X G a15)
  cases e
  have F0 := fun_mk (st := s_is_whole) l0 c0 k0
  have F1 := fun_mk (st := s_are_bounds) l1 c1 k1
  have F2 := fun_mk (st := s_look_at_bounds) l2 c2 k2
  have F3 := fun_mk (st := s__steps_over) l3 c3 k3
  have F4 := fun_mk (st := s_in_bits) l4 c4 k4
  have F5 := fun_mk (st := s_least_bounds) l5 c5 k5
  have F6 := fun_mk (st := s_is_exact) l6 c6 k6
  have F7 := fun_mk (st := s_room_of) l7 c7 k7
  have F8 := fun_mk (st := s__can_begin) l8 c8 k8
  have F9 := fun_mk (st := s_greatest_high) l9 c9 k9
  have F10 := fun_mk (st := s__law_take) l10 c10 k10
  have F11 := fun_mk (st := s__law_pool) l11 c11 k11
  have F12 := fun_mk (st := s__law_odd) l12 c12 k12
  have F13 := fun_mk (st := s__law_is_number) l13 c13 k13
  have F14 := fun_mk (st := s__law_said) l14 c14 k14
  have F15 := fun_mk (st := s_law) l15 c15 k15
  have T : Txt K mg := ⟨PySem.W.mg_none_of X G z_ValueError, PySem.W.mg_none_of X G z_abs, PySem.W.mg_none_of X G z_bool, PySem.W.mg_none_of X G z_int, PySem.W.mg_none_of X G z_isinstance, PySem.W.mg_none_of X G z_len, PySem.W.mg_none_of X G z_max, PySem.W.mg_none_of X G z_min, PySem.W.mg_none_of X G z_range, PySem.W.mg_none_of X G z_sum, ⟨_, PySem.W.mg_of X G v_CELLS⟩, ⟨_, PySem.W.mg_of X G v_LEAST_COUNT⟩, ⟨_, PySem.W.mg_of X G v_TOP_COUNT⟩, ⟨_, PySem.W.mg_of X G v_TOP_STEP⟩, ⟨C_NoAddress, PySem.W.mg_of X G ac_NoAddress, ac_NoAddress⟩, ⟨C_NoBounds, PySem.W.mg_of X G ac_NoBounds, ac_NoBounds⟩, ⟨C_NoFields, PySem.W.mg_of X G ac_NoFields, ac_NoFields⟩, ⟨C_NoNumber, PySem.W.mg_of X G ac_NoNumber, ac_NoNumber⟩, ⟨C_ReachError, PySem.W.mg_of X G ac_ReachError, ac_ReachError⟩, fun C D h1 h2 => by cases ns_one ac_NoBounds h1; cases ns_one ac_ReachError h2; exact exm_own xb_NoBounds_ReachError xh_NoBounds_ReachError xt_NoBounds_ReachError xs_NoBounds_ReachError, fun C h1 => by cases ns_one ac_NoBounds h1; exact ⟨ecg_NoBounds, eck_NoBounds, ecs_NoBounds, ecd_NoBounds, eca_NoBounds, ecn_NoBounds, ect_NoBounds, ecm_NoBounds⟩, fun C D h1 h2 => by cases ns_one ac_NoBounds h1; cases ns_one ac_NoBounds h2; exact kt_NoBounds_NoBounds, fun C D h1 h2 => by cases ns_one ac_NoBounds h1; cases ns_one ac_NoAddress h2; exact kt_NoBounds_NoAddress, fun C D h1 h2 => by cases ns_one ac_NoBounds h1; cases ns_one ac_NoFields h2; exact kt_NoBounds_NoFields, fun C D h1 h2 => by cases ns_one ac_NoBounds h1; cases ns_one ac_NoNumber h2; exact kt_NoBounds_NoNumber, fun C h1 => by cases ns_one ac_NoBounds h1; exact kt_NoBounds_ValueError⟩
  intro base H s a ns kb nb e0 hS hlen
  have TO_NoBounds : OexC K C_NoBounds := ⟨⟨_, _, _, _, _, _, _, _, _, _, _, _, _, _, _, xl_NoBounds, by rfl⟩, sa_NoBounds, eb_NoBounds, ty_NoBounds, kc_NoBounds⟩
  have FI_NoBounds := fun_mk (st := si_NoBounds) li_NoBounds ci_NoBounds ki_NoBounds
  have R_NoBounds : ErrK l.prog w K mg base "NoBounds" "text" := ⟨C_NoBounds, fi_NoBounds, _, ac_NoBounds, PySem.W.mg_of X G ac_NoBounds, TO_NoBounds, in_NoBounds, ti_NoBounds, oki_NoBounds FI_NoBounds TO_NoBounds no_NoBounds, FI_NoBounds.binds fun _ _ _ _ _ _ us hl => match us, hl with | [_, _], _ => rfl⟩
  have C_is_whole : Cal l.prog w K mg base "is_whole" 1 ["thing", "least", "most"] (sp_is_whole K) := ⟨_, _, ok_is_whole F0 T, PySem.W.mg_of X G a0, F0.kp, F0.binds fun _ _ _ _ _ _ us hl => match us, hl with | [_, _, _], _ => rfl⟩
  have C_are_bounds : Cal l.prog w K mg base "are_bounds" 2 ["low", "high"] (sp_are_bounds K) := ⟨_, _, ok_are_bounds F1 T C_is_whole, PySem.W.mg_of X G a1, F1.kp, F1.binds fun _ _ _ _ _ _ us hl => match us, hl with | [_, _], _ => rfl⟩
  have C_look_at_bounds : CalX l.prog w K mg base "look_at_bounds" 3 ["low", "high"] (sp_look_at_bounds K) := ⟨_, _, ok_look_at_bounds F2 T C_are_bounds R_NoBounds, PySem.W.mg_of X G a2, F2.kp, F2.binds fun _ _ _ _ _ _ us hl => match us, hl with | [_, _], _ => rfl⟩
  have C__steps_over : Cal l.prog w K mg base "_steps_over" 1 ["low", "high", "step"] (sp__steps_over K) := ⟨_, _, ok__steps_over F3 T, PySem.W.mg_of X G a3, F3.kp, F3.binds fun _ _ _ _ _ _ us hl => match us, hl with | [_, _, _], _ => rfl⟩
  have C_in_bits : CalX l.prog w K mg base "in_bits" 4 ["low", "high"] (sp_in_bits K) := ⟨_, _, ok_in_bits F4 T C_look_at_bounds C__steps_over, PySem.W.mg_of X G a4, F4.kp, F4.binds fun _ _ _ _ _ _ us hl => match us, hl with | [_, _], _ => rfl⟩
  have C_least_bounds : CalX l.prog w K mg base "least_bounds" 5 ["low", "high"] (sp_least_bounds K) := ⟨_, _, ok_least_bounds F5 T C_in_bits, PySem.W.mg_of X G a5, F5.kp, F5.binds fun _ _ _ _ _ _ us hl => match us, hl with | [_, _], _ => rfl⟩
  have C_is_exact : CalX l.prog w K mg base "is_exact" 6 ["low", "high"] (sp_is_exact K) := ⟨_, _, ok_is_exact F6 T C_least_bounds, PySem.W.mg_of X G a6, F6.kp, F6.binds fun _ _ _ _ _ _ us hl => match us, hl with | [_, _], _ => rfl⟩
  have C_room_of : CalX l.prog w K mg base "room_of" 5 ["many"] (sp_room_of K) := ⟨_, _, ok_room_of F7 T C_in_bits, PySem.W.mg_of X G a7, F7.kp, F7.binds fun _ _ _ _ _ _ us hl => match us, hl with | [_], _ => rfl⟩
  have C__can_begin : Cal l.prog w K mg base "_can_begin" 1 ["low", "high", "step"] (sp__can_begin K) := ⟨_, _, ok__can_begin F8 T, PySem.W.mg_of X G a8, F8.kp, F8.binds fun _ _ _ _ _ _ us hl => match us, hl with | [_, _, _], _ => rfl⟩
  have C_greatest_high : CalX l.prog w K mg base "greatest_high" 4 ["low", "high"] (sp_greatest_high K) := ⟨_, _, ok_greatest_high F9 T C_look_at_bounds C__can_begin, PySem.W.mg_of X G a9, F9.kp, F9.binds fun _ _ _ _ _ _ us hl => match us, hl with | [_, _], _ => rfl⟩
  have C__law_take : Cal l.prog w K mg base "_law_take" 1 ["_law_pool_here", "_law_many"] (sp__law_take K) := ⟨_, _, ok__law_take F10 T, PySem.W.mg_of X G a10, F10.kp, F10.binds fun _ _ _ _ _ _ us hl => match us, hl with | [_, _], _ => rfl⟩
  have C__law_pool : Cal l.prog w K mg base "_law_pool" 1 ["_law_script", "_law_k"] (sp__law_pool K) := ⟨_, _, ok__law_pool F11 T, PySem.W.mg_of X G a11, F11.kp, F11.binds fun _ _ _ _ _ _ us hl => match us, hl with | [_, _], _ => rfl⟩
  have C__law_odd : Cal l.prog w K mg base "_law_odd" 2 ["_law_pool_here"] (sp__law_odd K) := ⟨_, _, ok__law_odd F12 T C__law_take, PySem.W.mg_of X G a12, F12.kp, F12.binds fun _ _ _ _ _ _ us hl => match us, hl with | [_], _ => rfl⟩
  have C__law_is_number : Cal l.prog w K mg base "_law_is_number" 1 ["_law_thing", "_law_least", "_law_most"] (sp__law_is_number K) := ⟨_, _, ok__law_is_number F13 T, PySem.W.mg_of X G a13, F13.kp, F13.binds fun _ _ _ _ _ _ us hl => match us, hl with | [_, _, _], _ => rfl⟩
  have C__law_said : Cal l.prog w K mg base "_law_said" 7 ["_law_door", "_law_low", "_law_high"] (sp__law_said K) := ⟨_, _, ok__law_said F14 T C_in_bits C_least_bounds C_is_exact C_room_of C_greatest_high, PySem.W.mg_of X G a14, F14.kp, F14.binds fun _ _ _ _ _ _ us hl => match us, hl with | [_, _, _], _ => rfl⟩
  exact ok_law l15 c15 T C__law_pool C__law_odd C__law_is_number C__law_said e0 hS hlen
end My
open PySem PySem.W PyProof.Rows
set_option maxRecDepth 100000 in
set_option maxHeartbeats 0 in
theorem PySem.Challenge.cw_sealedreach_k07_no_bounds_holds : PySem.Challenge.rw_sealedreach_k07_no_bounds.Holds := by
  w_on; o_law; k_head; (case hw => w_witness2)
  k_fill
  refine My.walk_scr (l := PySem.Challenge.rw_sealedreach_k07_no_bounds) (n := 63) rfl (by decide) rfl (fun w h Y => PySem.W.kIn_of Y) ?F
  case F =>
    intro w mg fa h KX G hmg
    refine' My.all_mk KX G hmg ?a0 ?l0 ?c0 ?k0 ?a1 ?l1 ?c1 ?k1 ?a2 ?l2 ?c2 ?k2 ?a3 ?l3 ?c3 ?k3 ?a4 ?l4 ?c4 ?k4 ?a5 ?l5 ?c5 ?k5 ?a6 ?l6 ?c6 ?k6 ?a7 ?l7 ?c7 ?k7 ?a8 ?l8 ?c8 ?k8 ?a9 ?l9 ?c9 ?k9 ?a10 ?l10 ?c10 ?k10 ?a11 ?l11 ?c11 ?k11 ?a12 ?l12 ?c12 ?k12 ?a13 ?l13 ?c13 ?k13 ?a14 ?l14 ?c14 ?k14 ?a15 ?l15 ?c15 ?k15 ?z_ValueError ?z_abs ?z_bool ?z_int ?z_isinstance ?z_len ?z_max ?z_min ?z_range ?z_sum ?v_CELLS ?v_LEAST_COUNT ?v_TOP_COUNT ?v_TOP_STEP ?ac_NoAddress ?ac_NoBounds ?ac_NoFields ?ac_NoNumber ?ac_ReachError ?xl_NoBounds ?sa_NoBounds ?eb_NoBounds ?ty_NoBounds ?kc_NoBounds ?no_NoBounds ?in_NoBounds ?ti_NoBounds ?li_NoBounds ?ci_NoBounds ?ki_NoBounds ?xb_NoBounds_ReachError ?xh_NoBounds_ReachError ?xt_NoBounds_ReachError ?xs_NoBounds_ReachError ?ecg_NoBounds ?eck_NoBounds ?ecs_NoBounds ?ecd_NoBounds ?eca_NoBounds ?ecn_NoBounds ?ect_NoBounds ?ecm_NoBounds ?kt_NoBounds_NoBounds ?kt_NoBounds_NoAddress ?kt_NoBounds_NoFields ?kt_NoBounds_NoNumber ?kt_NoBounds_ValueError
    (case a0 => k_is)
    (case l0 => k_is)
    (case c0 => k_is)
    (case k0 => k_is)
    (case a1 => k_is)
    (case l1 => k_is)
    (case c1 => k_is)
    (case k1 => k_is)
    (case a2 => k_is)
    (case l2 => k_is)
    (case c2 => k_is)
    (case k2 => k_is)
    (case a3 => k_is)
    (case l3 => k_is)
    (case c3 => k_is)
    (case k3 => k_is)
    (case a4 => k_is)
    (case l4 => k_is)
    (case c4 => k_is)
    (case k4 => k_is)
    (case a5 => k_is)
    (case l5 => k_is)
    (case c5 => k_is)
    (case k5 => k_is)
    (case a6 => k_is)
    (case l6 => k_is)
    (case c6 => k_is)
    (case k6 => k_is)
    (case a7 => k_is)
    (case l7 => k_is)
    (case c7 => k_is)
    (case k7 => k_is)
    (case a8 => k_is)
    (case l8 => k_is)
    (case c8 => k_is)
    (case k8 => k_is)
    (case a9 => k_is)
    (case l9 => k_is)
    (case c9 => k_is)
    (case k9 => k_is)
    (case a10 => k_is)
    (case l10 => k_is)
    (case c10 => k_is)
    (case k10 => k_is)
    (case a11 => k_is)
    (case l11 => k_is)
    (case c11 => k_is)
    (case k11 => k_is)
    (case a12 => k_is)
    (case l12 => k_is)
    (case c12 => k_is)
    (case k12 => k_is)
    (case a13 => k_is)
    (case l13 => k_is)
    (case c13 => k_is)
    (case k13 => k_is)
    (case a14 => k_is)
    (case l14 => k_is)
    (case c14 => k_is)
    (case k14 => k_is)
    (case a15 => k_is)
    (case l15 => k_is)
    (case c15 => k_is)
    (case k15 => k_is)
    (case z_ValueError => k_is)
    (case z_abs => k_is)
    (case z_bool => k_is)
    (case z_int => k_is)
    (case z_isinstance => k_is)
    (case z_len => k_is)
    (case z_max => k_is)
    (case z_min => k_is)
    (case z_range => k_is)
    (case z_sum => k_is)
    (case v_CELLS => k_is)
    (case v_LEAST_COUNT => k_is)
    (case v_TOP_COUNT => k_is)
    (case v_TOP_STEP => k_is)
    (case ac_NoAddress => k_is)
    (case ac_NoBounds => k_is)
    (case ac_NoFields => k_is)
    (case ac_NoNumber => k_is)
    (case ac_ReachError => k_is)
    (case xl_NoBounds => k_is)
    (case sa_NoBounds => k_is)
    (case eb_NoBounds => k_is)
    (case ty_NoBounds => k_is)
    (case kc_NoBounds => k_is)
    (case no_NoBounds => k_is)
    (case in_NoBounds => k_is)
    (case ti_NoBounds => k_is)
    (case li_NoBounds => k_is)
    (case ci_NoBounds => k_is)
    (case ki_NoBounds => k_is)
    (case xb_NoBounds_ReachError => k_is)
    (case xh_NoBounds_ReachError => k_is)
    (case xt_NoBounds_ReachError => k_is)
    (case xs_NoBounds_ReachError => k_is)
    (case ecg_NoBounds => k_is)
    (case eck_NoBounds => k_is)
    (case ecs_NoBounds => k_is)
    (case ecd_NoBounds => k_is)
    (case eca_NoBounds => k_is)
    (case ecn_NoBounds => k_is)
    (case ect_NoBounds => k_is)
    (case ecm_NoBounds => k_is)
    (case kt_NoBounds_NoBounds => kit_is)
    (case kt_NoBounds_NoAddress => kit_is)
    (case kt_NoBounds_NoFields => kit_is)
    (case kt_NoBounds_NoNumber => kit_is)
    (case kt_NoBounds_ValueError => kit_is)
