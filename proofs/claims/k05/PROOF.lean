import PyProof.Rows.All
import Wide.All
import OpenK.AllK
import Wide.FinOn
import HandS.ForMost
import HandS.IsInst
import HandS.Conv
import HandS.TupLe
import HandS.Walk
import HandS.Zip
import HandS.Defaults
import HandS.MakeKwOnly
import HandS.SetFor
import HandS.Wide
import HandS.ForExc
import HandS.ExcInit
import KE.KExcIs
import PyProof.ReprLen
import HandS.TupAny
import HandS.Style
import HandS.Star
import KE.KUnpackStar
import KE.GoesMore
import KE.GoesEnum
import PyProof.DictUpdate
import HandS.Deep
import HandS.ExcField
import PyProof.ExcBaseAll.OverflowError
import PyProof.ExcBaseAll.RuntimeError
import PyProof.ExcBaseAll.LookupError
import PyProof.NeData
import HandS.TryOnly
import HandS.StrMore
import PySem.Challenge.RW_sealedreach_k05_refusals_apart
set_option Elab.async false
set_option linter.all false
set_option maxRecDepth 100000
set_option maxHeartbeats 4000000
namespace My
open PySem PySem.Spec PyProof.Rows L2
structure Cal (P : Program) (w : World) (K : PySem.W.Frag) (mg : Str → Option Value) (base : Heap) (x : Str) (k : Nat) (ps : List Str) (sp : Sp) : Prop where
  ex : ∃ (f : Addr) (fd : FuncData), FnOk P w K mg base CX0 k f fd ps sp ∧ mg x = some (.ref f) ∧ PySem.W.keepIn K (.ref f) = true ∧ Binds K fd ps []
theorem pe_cal {X : Cx} {x : Str} {k : Nat} {ps : List Str} {sp : Sp} {e : Expr} {es : List Expr} {t : TA} {p pos : Pos} (C : Cal X.prog X.w X.K X.mg X.base x k ps sp) (hr : Room k X.A)
    (ha : PA X (e :: es) t) (hg : Gl X x := by rfl) (hdb : (x == ("__debug__" : Str)) = false := by decide) (he : starEach (e :: es) X.env = (false, eval e X.env) :: starEach es X.env := by rfl) (hpl : (backTo pos (starEach es X.env)).any (·.1) = false := by rfl) :
    PE X (.Call (.Name x p) (e :: es) [] pos) (tCall sp [] E0 t) := by
  obtain ⟨f, fd, G, g, kp, b⟩ := C.ex
  exact pe_call G hr hg g kp b .nil pass0 ha hdb he hpl
theorem ifnd {p : Prop} [Decidable p] {A B : Prop} (h1 : ¬ p → A) (h2 : p → B) : if (!decide p) = true then A else B := by
  by_cases h : p
  · rw [decide_eq_true h]; exact h2 h
  · rw [decide_eq_false h]; exact h1 h
theorem ifd {p : Prop} [Decidable p] {A B : Prop} (h1 : p → A) (h2 : ¬ p → B) : if decide p = true then A else B := by
  by_cases h : p
  · rw [if_pos (decide_eq_true h)]; exact h1 h
  · rw [decide_eq_false h, if_neg Bool.false_ne_true]; exact h2 h
theorem ifbT {c : Bool} {A B : Prop} (h : c = true) (h1 : A) : if c = true then A else B := by rw [if_pos h]; exact h1
theorem ifbF {c : Bool} {A B : Prop} (h : c = false) (h1 : B) : if c = true then A else B := by rw [h, if_neg Bool.false_ne_true]; exact h1
theorem viaS {H H' : Hp} {b : Addr} {o : HO} (s : Same H H') (h : H b = some o) : H' b = some o := s b o h
theorem same_new {H : Hp} {p : Addr} {o : HO} (h : H p = none) : Same H (upd H p o) := fun b x e => by
  rw [upd_ne (ne_of_none e h)]; exact e
/-- all but what stands at a is as it was -/
def But (a : Addr) (H H' : Hp) : Prop := ∀ b o, b ≠ a → H b = some o → H' b = some o
theorem viaB {H H' : Hp} {a b : Addr} {o : HO} (s : But a H H') (n : b ≠ a) (h : H b = some o) : H' b = some o := s b o n h
theorem But.refl (a : Addr) (H : Hp) : But a H H := fun _ _ _ h => h
theorem But.of {a : Addr} {H H' : Hp} (s : Same H H') : But a H H' := fun b o _ h => s b o h
theorem But.trans {a : Addr} {H H1 H2 : Hp} (s : But a H H1) (t : But a H1 H2) : But a H H2 := fun b o n h => t b o n (s b o n h)
theorem But.upd {a : Addr} {H H' : Hp} {o : HO} (s : But a H H') : But a H (upd H' a o) := fun b x n h => by
  rw [upd_ne n]; exact s b x n h
theorem But.new {a p : Addr} {H H' : Hp} {o : HO} (s : But a H H') (n : H' p = none) : But a H (L2.upd H' p o) := fun b x nb h => by
  have e := s b x nb h
  rw [upd_ne (ne_of_none e n)]; exact e
theorem sameN {p : Addr} {H H' : Hp} {o : HO} (s : Same H H') (n : H' p = none) : Same H (L2.upd H' p o) := fun b x h => by
  have e := s b x h
  rw [upd_ne (ne_of_none e n)]; exact e
theorem updK {H : Hp} {a b : Addr} {o u : HO} (n : b ≠ a) (h : H b = some u) : L2.upd H a o b = some u := by rw [upd_ne n]; exact h
/-- the pool of a law: a list of two numbers, the second small -/
def Pool (H : Hp) (a : Addr) (x y : Int) : Prop := H a = some (.lst [.int x, .int y]) ∧ 0 ≤ x ∧ 0 ≤ y ∧ y < 2147483647
local macro_rules | `(tactic| walk_at "ne") => `(tactic| first | assumption | (apply Ne.symm; assumption) | (refine ne_of_none ?_ (by assumption); walk_at "at") | (apply Ne.symm; refine ne_of_none ?_ (by assumption); walk_at "at"))
local macro_rules | `(tactic| walk_at "at") => `(tactic| first | assumption | exact upd_same | (refine updK ?n ?h; (case n => walk_at "ne"); (case h => walk_at "at")) | (refine viaS (by assumption) ?_; walk_at "at") | (refine viaB (by assumption) ?n ?h; (case n => walk_at "ne"); (case h => walk_at "at")))
local macro_rules | `(tactic| walk_at "side") => `(tactic| first | rfl | omega | decide | (refine ⟨by omega, by omega, ?_⟩; first | decide | omega) | (refine Or.inl ⟨by omega, by omega⟩) | (refine Or.inr ⟨by omega, by omega⟩) | exact ⟨by omega, by omega⟩)
/-- one step of a reading whose answers are plain -/
local macro_rules | `(tactic| walk_at "g1") => `(tactic| first | refine ⟨_, rfl, ?_⟩ | refine ⟨_, _, rfl, rfl, ?_⟩ | refine ⟨by walk_at "side", ?_⟩)
local macro_rules | `(tactic| walk_at "g") => `(tactic| repeat walk_at "g1")
theorem sz {n : Nat} (h : n ≤ 1000) : n ≤ sizeLine := Nat.le_of_lt (small1000 h)
def rep (c L : Int) : Int := if (if c < L then c else L) > 1 then (if c < L then c else L) else 1
theorem rep_le {c L : Int} (h : 1 ≤ c) (h2 : c ≤ 63) : 1 ≤ rep c L ∧ rep c L ≤ c := by
  unfold rep
  by_cases d : c < L
  · simp only [if_pos d]; split <;> omega
  · simp only [if_neg d]; split <;> omega
theorem rep_lo {c L : Int} (h : 1 ≤ c) (h2 : c ≤ 63) : -(2 ^ 62) ≤ rep c L := by have := (rep_le (L := L) h h2).1; omega
theorem rep_hi {c L : Int} (h : 1 ≤ c) (h2 : c ≤ 63) : rep c L < 2 ^ 62 := by have := (rep_le (L := L) h h2).2; omega
theorem rep_i {c L : Int} {i : Nat} (h : 1 ≤ c) (h2 : c ≤ 63) (k : i < (rep c L).toNat) : i ≤ 63 := by have := (rep_le (L := L) h h2).2; omega
theorem pick {xs : List V} {r : Int} (P : V → Prop) (h0 : 0 ≤ r) (h1 : r < (xs.length : Int)) (hP : ∀ v ∈ xs, P v) : ∃ v, atI xs r = some v ∧ P v := by
  obtain ⟨j, rfl⟩ : ∃ j : Nat, r = (j : Int) := ⟨r.toNat, by omega⟩
  have hj : j < xs.length := by omega
  exact ⟨xs[j], atI_nat (List.getElem?_eq_getElem hj), hP _ (List.getElem_mem hj)⟩
theorem cut63 {ns : List Int} (h : ns.length ≤ 63) : cutV (ns.map V.int) none (some 63) = ns.map V.int := by
  unfold cutV
  rw [show HT.sIx (ns.map V.int).length (ns.map V.int).length (some 63) = min 63 (ns.map V.int).length from HT.sIx_nat _ _ 63, HT.sIx_none]
  rw [List.drop_zero, Nat.sub_zero, List.length_map, Nat.min_eq_right h]
  exact List.take_of_length_le (by simp)
theorem b01 (k : Bool) : -(2 ^ 64) < (if k then (1 : Int) else 0) ∧ (if k then (1 : Int) else 0) < 2 ^ 64 := by cases k <;> decide
theorem mixb (z : Int) : -(2 ^ 64) < z % 2147483647 ∧ z % 2147483647 < 2 ^ 64 := by omega
theorem sizeb (c : Int) (k : Bool) : 0 ≤ (if c < 0 then -c else c) * (if k then (1 : Int) else 0) := by
  cases k
  · simp
  · simp; split <;> omega
def Dd (lo hi : Int) (t : Nat) : Int := (hi - 1) / 2 ^ t - lo / 2 ^ t
def StepIs (lo hi : Int) (s : Nat) : Prop := s ≤ 8 ∧ Dd lo hi s ≤ 15 ∧ ∀ t, t < s → 15 < Dd lo hi t
def Bd (lo hi : Int) : Prop := 0 ≤ lo ∧ lo < hi ∧ hi ≤ 4096
def Ex (lo hi : Int) (s : Nat) : Prop := StepIs lo hi s ∧ lo / 2 ^ s * 2 ^ s = lo ∧ ((hi - 1) / 2 ^ s + 1) * 2 ^ s = hi
theorem na {x : Int} (h0 : 0 ≤ x) (h1 : x ≤ 100000) : x.natAbs < 2 ^ 64 := by omega
inductive Kd (H : Hp) : V → Prop where
  | non : Kd H .non
  | bl (b : Bool) : Kd H (.bl b)
  | int (i : Int) : Kd H (.int i)
  | str (x : Str) : Kd H (.str x)
  | lst {p : Addr} {xs : List V} (e : H p = some (.lst xs)) : Kd H (.ref p)
  | tup {p : Addr} {xs : List V} (e : H p = some (.tup xs)) : Kd H (.ref p)
  | dk {p : Addr} {kvs : List (Key × V)} (e : H p = some (.dK kvs)) : Kd H (.ref p)
theorem Kd.same {H H' : Hp} {v : V} (k : Kd H v) (s : Same H H') : Kd H' v := by
  cases k with
  | non => exact .non
  | bl b => exact .bl b
  | int i => exact .int i
  | str x => exact .str x
  | lst e => exact .lst (s _ _ e)
  | tup e => exact .tup (s _ _ e)
  | dk e => exact .dk (s _ _ e)
/-- it is no tuple -/
inductive NoT (H : Hp) : V → Prop where
  | non : NoT H .non
  | bl (b : Bool) : NoT H (.bl b)
  | int (i : Int) : NoT H (.int i)
  | str (x : Str) : NoT H (.str x)
  | lst {p : Addr} {xs : List V} (e : H p = some (.lst xs)) : NoT H (.ref p)
  | dk {p : Addr} {kvs : List (Key × V)} (e : H p = some (.dK kvs)) : NoT H (.ref p)
def code (k : Nat) : Nat := [114, 119, 108, 115, 110, 102, 120, 99, 111].getD k 0
def one (c : Nat) : Str := ⟨#[c]⟩
def rcs (p : Nat → Bool) (i : Nat) : List Str := ((List.range i).filter p).map fun k => one (code k)
def rtx (p : Nat → Bool) : Str := Txt.join (Str.ofString "") (rcs p 9)
/-- the right k is in a text -/
def hasR (r : Str) (k : Nat) : Bool := decide (code k ∈ r.cps.toList)
def hasG (r g : Str) : Bool := g.cps.toList.any fun c => decide (c ∈ r.cps.toList)
def G0 : Str := Str.ofString "rwlsn"
def G1 : Str := Str.ofString "x"
def G2 : Str := Str.ofString "co"
def OneW (r : Str) : Prop := ([G0, G1, G2].filter (hasG r)).length ≤ 1
theorem i0 (i : Nat) : (0 : Int) + (i : Int) = (i : Int) := by omega
def bitp (m : Int) : Nat → Bool := fun k => decide (m / 2 ^ k % 2 = 1)
def fFirst (b : Int) : Int := b / 2 ^ 12 % 2 ^ 12
def fCnt (b : Int) : Int := b / 2 ^ 24 % 2 ^ 4 + 1
def fStep (b : Int) : Int := b / 2 ^ 28 % 2 ^ 4
def fRts (b : Int) : Int := b / 2 ^ 32 % 2 ^ 9
def fKind (b : Int) : Int := b / 2 ^ 41 % 2 ^ 4
def Tells (b : Int) : Prop := fStep b ≤ 8 ∧ (fStep b = 0 ∨ 9 ≤ fCnt b) ∧ (fFirst b + fCnt b) * 2 ^ (fStep b).toNat ≤ 4096
/-- the fields of a lawful marked word -/
def F5 (xs : List V) : Prop := ∃ (lo hi at' : Int) (r : Str) (kd : Int), xs = [.int lo, .int hi, .int at', .str r, .int kd] ∧ Bd lo hi ∧ (∃ s, Ex lo hi s) ∧ 0 ≤ at' ∧ at' ≤ 4095 ∧ 0 ≤ kd ∧ kd ≤ 15 ∧ r = rtx (hasR r) ∧ OneW r
instance (b : Int) : Decidable (Tells b) := by unfold Tells; infer_instance
/-- bits that a marked word may have -/
def Law (b : Int) : Prop := Tells b ∧ OneW (rtx (bitp (fRts b)))
def W45 (b : Int) : Prop := 0 ≤ b ∧ b < 35184372088832
theorem Pool.same {H H' : Hp} {p : Addr} {x y : Int} (h : Pool H p x y) (s : Same H H') : Pool H' p x y := ⟨s _ _ h.1, h.2⟩
theorem But.free {H H' : Hp} {a q : Addr} {x y : Int} (b : But a H H') (P : Pool H' a x y) (n : H' q = none) : H q = none := by
  cases e : H q with
  | none => rfl
  | some o =>
    by_cases c : q = a
    · subst c; rw [P.1] at n; cases n
    · rw [b q o c e] at n; cases n
local macro_rules | `(tactic| walk_at "but") => `(tactic| first | assumption | exact But.refl _ _ | (refine But.trans ?_ (by assumption); walk_at "but") | (refine But.trans ?_ (But.of (by assumption)); walk_at "but") | (refine But.new ?_ (by assumption); walk_at "but") | (refine But.upd ?_; walk_at "but"))
local macro_rules | `(tactic| walk_at "same") => `(tactic| first | assumption | exact Same.refl _ | (refine Same.trans ?_ (by assumption); walk_at "same") | (refine sameN ?_ (by assumption); walk_at "same"))
structure Wd (H : Hp) (q : Addr) (m : Bool) (b : Int) : Prop where
  at' : H q = some (.tup [.bl m, .int b])
  w : W45 b
  law : m = true → Law b
theorem Wd.same {H H' : Hp} {q : Addr} {m : Bool} {b : Int} (h : Wd H q m b) (s : Same H H') : Wd H' q m b := ⟨s _ _ h.at', h.w, h.law⟩
/-- a text of rights that is good -/
def RV (v : V) : Prop := ∃ p, v = .str (rtx p) ∧ OneW (rtx p)
theorem rv {s : Str} (h : s = rtx (hasR s)) (o : OneW s) : RV (.str s) := ⟨hasR s, congrArg V.str h, h ▸ o⟩
/-- one word within another -/
def Within (b c : Int) : Prop := fFirst c * 2 ^ (fStep c).toNat ≤ fFirst b * 2 ^ (fStep b).toNat ∧ (fFirst b + fCnt b) * 2 ^ (fStep b).toNat ≤ (fFirst c + fCnt c) * 2 ^ (fStep c).toNat ∧ (∀ k, k < 9 → bitp (fRts b) k = true → bitp (fRts c) k = true) ∧ (fKind b = fKind c ∨ (fKind c = 0 ∧ fKind b ≠ 2))
theorem Within.refl (b : Int) : Within b b := ⟨Int.le_refl _, Int.le_refl _, fun _ _ h => h, .inl rfl⟩
/-- a def's body, walked for one caller's state A alone -/
theorem body_at {P : Program} {w : World} {K : PySem.W.Frag} {mg : Str → Option Value} {base : Heap} {k : Nat} {f : Addr} {name qual : Str} {params : Arguments} {body : List Stmt} {scope : Scope}
    {dV kV doc pm cdv ct oc : Value} {an od : Option Addr} {osl : Array (Option Value)} {N ps : List Str} {A : Around} {outer : List Env} {s : Shared} {H : Hp} {args : Args} {us : List Value} {vs : List V} {Q : VK}
    (lk : K.lookup f = some ⟨oc, od, .func (PySem.W.fnOf name qual params body scope dV kV doc pm an cdv ct), osl⟩) (hcd : PySem.W.codeIn K cdv qual = true) (S : FnScope N ps scope) (hl : vs.length = ps.length)
    (hr : Room (k + 1) A) (e0 : Env0 P w K mg base A outer s H) (hb : BindsTo s (PySem.W.fnOf name qual params body scope dV kV doc pm an cdv ct) args (ps.zip us)) (rv : Vals vs us)
    (walk : ∃ t, PSs (cxOf CX0 P w K mg base N qual scope f cdv A outer s H (fun _ _ _ => False)) body t ∧ t { nx := fun _ H' => Q .non H', rt := Q } (start N vs) H) :
    codeAny (model P w) A (.call (.ref f) args) (CR CX0 outer P w H s Q fun _ _ _ => False) s := by
  have old : ∀ b o, base.get? b = some o → s.heap.get? b = some o := fun b o z => (e0.bs b o z).1
  have inK : K.In s.heap := e0.mod.kin.keeps old
  have slots : ∀ y ∈ ps.zip us, scope.names.lookup y.1 = some .local ∨ (scope.names.lookup y.1 = some .cell ∧ ((cellsFrom (s.heap.objs.size + 1) scope.names []).lookup y.1).isSome = true) := by
    rintro ⟨n, v⟩ hy
    cases S.par n (List.of_mem_zip hy).1 with
    | inl z => exact Or.inl z
    | inr z => exact Or.inr ⟨z, PySem.W.cellsFrom_some _ _ _ (Or.inl z)⟩
  obtain ⟨t, ht, hq⟩ := walk
  refine codeAny_call_function hr.depth (inK _ _ lk) rfl S.co S.gen rfl (PySem.W.codeRec_of inK hcd) (hb _ _ _ _ ?_)
  refine wpAny_newFunctionEnv_cells S.kind slots fun env eenv s1 ic => ?_
  subst eenv
  refine ⟨(e0.mod.nolimit.keeps old).keeps ic.toInCall.keep, codeAny_func ?_⟩
  have J := inv_start (CX := CX0) (E := fun _ _ _ => False) S hr.hd e0 hl rv ic
  refine wpAny_mono (ht.run [] s1 _ H _ J hq) (fun fl s' got => ?_) fun _ _ z => z
  match fl, got with
  | .ret u, ⟨v, σ', H', J', r', q'⟩ => exact ⟨v, H', J'.os, J'.bare, J'.base, J'.hok, r', q'⟩
  | .next, ⟨σ', H', J', q'⟩ => exact ⟨.non, H', J'.os, J'.bare, J'.base, J'.hok, rfl, q'⟩
  | .brk, ⟨_, _, _, q'⟩ => exact q'.elim
  | .cont, ⟨_, _, _, q'⟩ => exact q'.elim
/-- the script as the only thing that may be tracked -/
structure Scr (P : Program) (w : World) (K : PySem.W.Frag) (h : Heap) (a : Addr) (ns : List Int) (H : Hp) : Prop where
  only : Only H
  seq : SqL K H a (ns.map V.int)
  ok : HOk P w H h
  at' : ∀ b, H b ≠ none → b = a ∧ K.lookup a = none
theorem scr {P : Program} {w : World} {K : PySem.W.Frag} {h : Heap} {a : Addr} {vs : List Value} {ns : List Int} (KX : K.In h)
    (ha : h.get? a = some { cls := .type "list", data := .seq vs.toArray }) (hi : IntsAre vs ns) (hl : ns.length ≤ sizeLine) : ∃ H, Scr P w K h a ns H := by
  have rel := vals_ints hi
  have len : (ns.map V.int).length ≤ sizeLine := by rw [List.length_map]; exact hl
  by_cases inK : K.lookup a = none
  · refine ⟨upd (fun _ => none) a (.frz { cls := .type "list", data := .seq vs.toArray } (.lst (ns.map V.int))), fun b => ?_, .inl (.inr ⟨_, upd_same⟩), fun b o e => ?_, fun b e => ?_⟩
    · rcases Decidable.em (b = a) with z | z
      · subst z; exact .inr ⟨_, _, upd_same⟩
      · exact .inl (upd_ne z)
    · rcases Decidable.em (b = a) with z | z
      · subst z
        rw [upd_same] at e
        cases e
        exact ⟨ha, len, vs, _, rel, ha⟩
      · rw [upd_ne z] at e; cases e
    · rcases Decidable.em (b = a) with z | z
      · exact ⟨z, inK⟩
      · exact absurd (upd_ne z) e
  · obtain ⟨o, ho⟩ : ∃ o, K.lookup a = some o := by
      cases e : K.lookup a with
      | none => exact absurd e inK
      | some o => exact ⟨o, rfl⟩
    have same : o = { cls := .type "list", data := .seq vs.toArray } := Option.some.inj ((KX a o ho).symm.trans ha)
    subst same
    refine ⟨fun _ => none, fun _ => .inl rfl, .inr ⟨_, vs.toArray, 0, ho, rfl, rfl, rfl, ?_, ?_⟩, fun _ _ e => ?_, fun _ e => absurd rfl e⟩
    · have := hi.length
      show vs.toArray.size ≤ sizeLine
      rw [List.size_toArray]; omega
    · show Vals _ vs.toArray.toList
      exact rel
    · exact nomatch e
theorem caller_guards : callerA.guards = some [] := by first | rfl | decide
theorem seqL_same {K : PySem.W.Frag} {H H' : Hp} {a : Addr} {xs : List V} (s : Same H H') (h : SqL K H a xs) : SqL K H' a xs := s.seq h
theorem seqT_same {K : PySem.W.Frag} {H H' : Hp} {a : Addr} {xs : List V} (e : Same H H') (h : SqT K H a xs) : SqT K H' a xs := by
  rcases h with (h | ⟨o, h⟩) | h
  · exact .inl (.inl (e _ _ h))
  · exact .inl (.inr ⟨o, e _ _ h⟩)
  · exact .inr h
mutual
theorem Dp.same {K : PySem.W.Frag} {H H' : Hp} (s : Same H H') : ∀ {v : V} {d : PyData}, Dp K H v d → Dp K H' v d
  | _, _, .non => .non
  | _, _, .bl b => .bl b
  | _, _, .int i => .int i
  | _, _, .str x => .str x
  | _, _, .lst h k => .lst (seqL_same s h) (DpAll.same s k)
  | _, _, .tup h k => .tup (seqT_same s h) (DpAll.same s k)
theorem DpAll.same {K : PySem.W.Frag} {H H' : Hp} (s : Same H H') : ∀ {vs : List V} {ds : List PyData}, DpAll K H vs ds → DpAll K H' vs ds
  | _, _, .nil => .nil
  | _, _, .cons h k => .cons (Dp.same s h) (DpAll.same s k)
end
theorem NoT.same {H H' : Hp} {v : V} (k : NoT H v) (s : Same H H') : NoT H' v := by
  cases k with
  | non => exact .non
  | bl b => exact .bl b
  | int i => exact .int i
  | str x => exact .str x
  | lst e => exact .lst (s _ _ e)
  | dk e => exact .dk (s _ _ e)
/-- the heap but for what stands at a -/
def hide (a : Addr) (H : Hp) : Hp := fun b => if b = a then none else H b
theorem hide_but {a : Addr} {H H' : Hp} (b : But a H H') : Same (hide a H) (hide a H') := fun c o h => by
  unfold hide at h ⊢
  by_cases e : c = a
  · rw [if_pos e] at h; cases h
  · rw [if_neg e] at h ⊢; exact b c o e h
def Sok (s : Str) : Prop := PyData.strOk s = true ∧ s.cps.size ≤ 100
def LeafD (d : PyData) : Prop := d.showable = true ∧ d.hasDict = false ∧ d.leavesShort 600 = true ∧ d.weight ≤ 200 ∧ d.depth ≤ 1
def FitD (d : PyData) : Prop := d.showable = true ∧ d.hasDict = false ∧ d.depth ≤ 50 ∧ d.shown.length ≤ sizeLine
/-- a leaf, or little more -/
def Leafy (K : PySem.W.Frag) (H : Hp) (v : V) : Prop := (∃ d, Dp K H v d ∧ LeafD d) ∧ Kd H v ∧ ∀ s, v = .str s → Sok s
theorem Leafy.same {K : PySem.W.Frag} {H H' : Hp} {v : V} (l : Leafy K H v) (s : Same H H') : Leafy K H' v := by
  obtain ⟨⟨d, h, k⟩, kd, so⟩ := l
  exact ⟨⟨d, Dp.same s h, k⟩, kd.same s, so⟩
theorem leafs_all {K : PySem.W.Frag} {H : Hp} : ∀ {xs : List V}, (∀ x ∈ xs, Leafy K H x) → ∃ ds, DpAll K H xs ds ∧ ds.length = xs.length ∧ ∀ d ∈ ds, LeafD d := by
  intro xs
  induction xs with
  | nil => exact fun _ => ⟨[], .nil, rfl, fun d hd => nomatch hd⟩
  | cons x xs ih =>
    intro h
    obtain ⟨⟨d, h1, h2⟩, _⟩ := h x (by simp)
    obtain ⟨ds, k1, k2, k3⟩ := ih fun y hy => h y (by simp [hy])
    refine ⟨d :: ds, .cons h1 k1, by simp [k2], fun e he => ?_⟩
    rcases List.mem_cons.mp he with z | z
    · rw [z]; exact h2
    · exact k3 e z
theorem leafs_fit {ds : List PyData} (h : ∀ d ∈ ds, LeafD d) (n : ds.length ≤ 8) : PyData.showableAll ds = true ∧ PyData.hasDictAll ds = false ∧ PyData.leavesShortAll 600 ds = true ∧ PyData.weightAll ds ≤ 1608 ∧ PyData.depthAll ds ≤ 1 := by
  have key : ∀ ds : List PyData, (∀ d ∈ ds, LeafD d) → PyData.showableAll ds = true ∧ PyData.hasDictAll ds = false ∧ PyData.leavesShortAll 600 ds = true ∧ PyData.weightAll ds ≤ 201 * ds.length ∧ PyData.depthAll ds ≤ 1 := by
    intro ds
    induction ds with
    | nil => intro _; simp [PyData.showableAll, PyData.hasDictAll, PyData.leavesShortAll, PyData.weightAll, PyData.depthAll]
    | cons d ds ih =>
      intro h
      obtain ⟨a1, a2, a3, a4, a5⟩ := h d (by simp)
      obtain ⟨b1, b2, b3, b4, b5⟩ := ih fun e he => h e (by simp [he])
      simp only [PyData.showableAll, PyData.hasDictAll, PyData.leavesShortAll, PyData.weightAll, PyData.depthAll, a1, a2, a3, b1, b2, b3, List.length_cons]
      refine ⟨rfl, rfl, rfl, by omega, by omega⟩
  obtain ⟨a1, a2, a3, a4, a5⟩ := key ds h
  exact ⟨a1, a2, a3, by omega, a5⟩
theorem fit_shown {d : PyData} (h : d.leavesShort 600 = true) (w : d.weight ≤ 2000) : d.shown.length ≤ sizeLine := by
  have := PyData.shown_le 600 (by decide) d h
  rw [sizeLine_eq]; omega
theorem fit_tup {ds : List PyData} (h : ∀ d ∈ ds, LeafD d) (n : ds.length ≤ 8) : FitD (.tuple ds) := by
  obtain ⟨a1, a2, a3, a4, a5⟩ := leafs_fit h n
  refine ⟨by simp only [PyData.showable, a1], by simp only [PyData.hasDict, a2], by simp only [PyData.depth]; omega, fit_shown (by simp only [PyData.leavesShort, a3]) (by simp only [PyData.weight]; omega)⟩
theorem fit_lst {ds : List PyData} (h : ∀ d ∈ ds, LeafD d) (n : ds.length ≤ 8) : FitD (.list ds) := by
  obtain ⟨a1, a2, a3, a4, a5⟩ := leafs_fit h n
  refine ⟨by simp only [PyData.showable, a1], by simp only [PyData.hasDict, a2], by simp only [PyData.depth]; omega, fit_shown (by simp only [PyData.leavesShort, a3]) (by simp only [PyData.weight]; omega)⟩
/-- a thing: a tuple of leaves, a list of such, or a leaf that is no tuple -/
def Thing (K : PySem.W.Frag) (H : Hp) (v : V) : Prop := (∃ d, Dp K H v d ∧ FitD d) ∧ ((∃ (p : Addr) (xs : List V), v = .ref p ∧ H p = some (.tup xs) ∧ (∀ x ∈ xs, Kd H x) ∧ ∀ s, V.str s ∈ xs → Sok s) ∨ NoT H v)
theorem Thing.same {K : PySem.W.Frag} {H H' : Hp} {v : V} (t : Thing K H v) (s : Same H H') : Thing K H' v := by
  obtain ⟨⟨d, h, k⟩, t⟩ := t
  refine ⟨⟨d, Dp.same s h, k⟩, ?_⟩
  rcases t with ⟨p, xs, rfl, h1, h2, h3⟩ | t
  · exact .inl ⟨p, xs, rfl, s _ _ h1, fun x hx => (h2 x hx).same s, h3⟩
  · exact .inr (t.same s)
theorem Thing.tup {K : PySem.W.Frag} {H : Hp} {p : Addr} {xs : List V} (h : H p = some (.tup xs)) (l : ∀ x ∈ xs, Leafy K H x) (n : xs.length ≤ 8) : Thing K H (.ref p) := by
  obtain ⟨ds, k1, k2, k3⟩ := leafs_all l
  exact ⟨⟨.tuple ds, .tup (.of h) k1, fit_tup k3 (by omega)⟩, .inl ⟨p, xs, rfl, h, fun x hx => (l x hx).2.1, fun s hs => (l _ hs).2.2 s rfl⟩⟩
theorem Thing.lst {K : PySem.W.Frag} {H : Hp} {p : Addr} {xs : List V} (h : H p = some (.lst xs)) (l : ∀ x ∈ xs, Leafy K H x) (n : xs.length ≤ 8) : Thing K H (.ref p) := by
  obtain ⟨ds, k1, k2, k3⟩ := leafs_all l
  exact ⟨⟨.list ds, .lst (.of h) k1, fit_lst k3 (by omega)⟩, .inr (.lst h)⟩
theorem Thing.non {K : PySem.W.Frag} {H : Hp} : Thing K H .non := ⟨⟨_, .non, by unfold FitD; decide +kernel⟩, .inr .non⟩
/-- at a: an exception of the class cls, its own dict at d -/
def kept (a : Addr) (cls : Value) (d : Option Addr) : HO := .ext fun h => ∃ oe, h.get? a = some oe ∧ Zc cls d oe ∧ ∃ vs, oe.data = .fields vs
theorem kept_ok {P : Program} {w : World} {H : Hp} {h : Heap} {a : Addr} {cls : Value} {d : Option Addr} {oe : Obj} {vs : Array Value} (e : h.get? a = some oe) (z : Zc cls d oe) (hd : oe.data = .fields vs) : ObjOk P w H h a (kept a cls d) :=
  ⟨⟨oe, e, z, vs, hd⟩, ⟨oe, e⟩, fun _ _ ⟨o, e1, r⟩ k => ⟨o, k o e1, r⟩⟩
theorem Inv.track {X : Cx} {pins : List (Addr × Obj)} {σ : L2.St} {H : Hp} {s : Shared} {a : Addr} {cls : Value} {d : Option Addr} {oe : Obj} {vs : Array Value} (I : Inv X pins σ H s)
    (e : s.heap.get? a = some oe) (z : Zc cls d oe) (hd : oe.data = .fields vs) (na : H a = none) (n0 : X.s_0.heap.get? a = none) (nL : a ≠ X.env.locals) (np : ∀ p ∈ X.pn ++ pins, p.1 ≠ a) :
    Inv X pins σ (upd H a (kept a cls d)) s := by
  refine ⟨I.ok, I.os, I.bare, ⟨I.base.keep, I.base.slot, fun b o q n hx => ?_, I.base.there, fun b xs q => ?_, fun b o u q => ?_, fun b ps q => ?_⟩, I.loc, I.cell, ?_, fun x c q => ?_, fun p hp => ?_, fun b o q => ?_, I.len⟩
  · have nb : b ≠ a := fun y => by rw [y, n0] at q; cases q
    rw [upd_ne nb]
    exact I.base.free b o q n hx
  · have q' := I.base.tups b xs q
    rw [upd_ne (ne_of_none q' na)]; exact q'
  · have q' := I.base.frzs b o u q
    rw [upd_ne (ne_of_none q' na)]; exact q'
  · obtain ⟨more, q'⟩ := I.base.tbls b ps q
    exact ⟨more, by rw [upd_ne (ne_of_none q' na)]; exact q'⟩
  · rw [upd_ne (Ne.symm nL)]; exact I.free
  · have nc : c ≠ a := fun y => by
      obtain ⟨v, o, e1, e2⟩ := I.cell x c q
      rw [y, e] at e1
      cases e1
      rw [hd] at e2
      cases e2
    rw [upd_ne nc]; exact I.freeC x c q
  · obtain ⟨p1, p2, p3, p4, p5⟩ := I.pin p hp
    exact ⟨p1, by rw [upd_ne (np p hp)]; exact p2, p3, p4, p5⟩
  · by_cases hb : b = a
    · subst hb
      rw [upd_same] at q
      cases q
      exact kept_ok e z hd
    · rw [upd_ne hb] at q
      exact (I.hok b o q).stay (fun _ _ _ y => y) (fun c hc => by rw [upd_ne (ne_of_none hc na)]; exact hc) fun c xs hc => by rw [upd_ne (ne_of_none hc na)]; exact hc
/-- what the written part says of the class of an error -/
structure ErrC (K : PySem.W.Frag) (C : Addr) : Prop where
  hg : PySem.W.findIn K (.ref C) "__getattribute__" = some (some (.builtin "BaseException.__getattribute__"))
  hk : PySem.W.findIn K (.ref C) "__getattr__" = some none
  hs : PySem.W.subIn K (.ref C) (.type "BaseException") = some true
  hd : PySem.W.hasDictIn K C = true
  ha : PySem.W.findIn K (.ref C) "__class__" = some (some (.builtin "object.__class__"))
  hn : PySem.W.specialIn K (.builtin "object.__class__") "__get__" = some (some (.builtin "getset_descriptor.__get__"))
  ht : PySem.W.takesIn K (.builtin "object.__class__") = some true
  hm : PySem.W.mroIn K C (.type "object") = some true
theorem kept_at {X : Cx} {pins : List (Addr × Obj)} {σ : L2.St} {H : Hp} {s : Shared} {a C d : Addr} {fs : List (Str × V)} (I : Inv X pins σ H s) (e : H a = some (kept a (.ref C) (some d))) (ed : H d = some (.xd fs)) :
    ∃ oe od, PySem.W.InstAt s.heap a oe C (some od) := by
  obtain ⟨⟨oe, h1, hz, vs, hd⟩, _⟩ := (show ObjOk X.prog X.w H s.heap a (kept a (.ref C) (some d)) from I.hok a _ e)
  obtain ⟨mA, hns, _⟩ := (show ObjOk X.prog X.w H s.heap d (.xd fs) from I.hok d _ ed)
  obtain ⟨od, _, _, ho, _⟩ := hns
  exact ⟨oe, od, h1, hz.1, by unfold PySem.W.notCls; rw [hd] <;> rfl, by rw [hz.2]; exact ho⟩
theorem ErrC.kit {K : PySem.W.Frag} {C x : Addr} {ox : Obj} {od : Option Obj} (E : ErrC K C) : PySem.W.KitX K (.ref x) (.ref C) (fun h => PySem.W.InstAt h x ox C od) :=
  PySem.W.kitx_exc (by obtain ⟨cd, hc, _⟩ := PySem.W.any_some E.hd; rw [hc]; rfl) E.hg E.hk E.hs E.ha E.hn E.ht E.hm
/-- isinstance(e, c), e a kept error of the class C -/
def rIsX (K : PySem.W.Frag) : List V → Hp → VK → Prop := fun xs H Q => ∃ (a C d : Addr) (fs : List (Str × V)) (c : V) (u : Value) (b : Bool), xs = [.ref a, c] ∧ H a = some (kept a (.ref C) (some d)) ∧ H d = some (.xd fs) ∧ ErrC K C ∧ ClsV c u ∧ PySem.W.kitOne K (.ref C) u = some b ∧ Q (.bl b) H
section
variable {X : Cx}
theorem call_isX : CallR X (.builtin "isinstance") (rIsX X.K) := by
  intro pins s σ H xs us Q I r h
  obtain ⟨a, C, d, fs, c, u, b, rfl, ea, ed, E, k, e, q⟩ := h
  obtain ⟨u1, u2, rfl, r1, r2⟩ := vals2 r
  have e2 := k.eq r2
  subst e2
  cases (show u1 = Value.ref a from r1)
  obtain ⟨oe, od, J⟩ := kept_at I ea ed
  exact PySem.W.kia_one E.kit I.kIn J e (fun z => nomatch z) fun tk => ⟨.bl b, H, I.tok tk, rfl, q⟩
end
/-- what __init__ keeps -/
def spErr (C : Addr) (f : Str) : Sp := fun vs H Q _ => ∃ (a : Addr) (v : V), vs = [.ref a, v] ∧ H a = some (exo a C none) ∧ ∀ dx, H dx = none → dx ≠ a → Q .non (upd (upd H dx (exd dx [(f, v)])) a (exo a C (some dx)))
/-- an error of the class by the name x may leave, its field f, all else as it was -/
def Lets (K : PySem.W.Frag) (x f : Str) (H : Hp) (E : XK) : Prop := ∀ (C d : Addr) (v : V) (H1 : Hp), PySem.W.nsIn K mainGlobals x = some (some (.ref C)) → Same H H1 → H1 d = none → E (.ref C) (some d) (upd H1 d (.xd [(f, v)]))
theorem Lets.same {K : PySem.W.Frag} {x f : Str} {H H2 : Hp} {E : XK} (l : Lets K x f H E) (s : Same H H2) : Lets K x f H2 E := fun C d v H1 h1 h2 h3 => l C d v H1 h1 (s.trans h2) h3
section
variable {X : Cx} {x f : Str} {e : Expr} {te : TE} {p pos : Pos}
theorem PE.more (he : PE X e te) : PE X e (fun σ H Q => ∃ Q1 : VK, te σ H Q1 ∧ ∀ v H1, Q1 v H1 → Q v H1) :=
  ⟨fun pins s σ H Q I ⟨Q1, h, k⟩ => wpAny_mono (he.run pins s σ H Q1 I h) (fun _ _ ⟨v, H', I', r, q⟩ => ⟨v, H', I', r, k _ _ q⟩) fun _ _ z => z⟩
end
/-- one class stands by a name -/
theorem ns_one {K : PySem.W.Frag} {x : Str} {C D : Addr} (h : PySem.W.nsIn K mainGlobals x = some (some (.ref C))) (k : PySem.W.nsIn K mainGlobals x = some (some (.ref D))) : C = D := by
  rw [h] at k
  cases k
  rfl
def tKf (K : PySem.W.Frag) (n : Str) (te : TE) : TE := fun σ H Q => te σ H fun x H1 => ∃ (a C d : Addr) (fs : List (Str × V)) (v : V), x = .ref a ∧ H1 a = some (kept a (.ref C) (some d)) ∧ H1 d = some (.xd fs) ∧ ErrC K C ∧ PySem.W.findIn K (.ref C) n = some none ∧ fs.lookup n = some v ∧ Q v H1
theorem pe_kf {X : Cx} {e : Expr} {te : TE} {pos : Pos} {n : Str} (he : PE X e te) (hb : attributeBase e n X.env (eval e X.env) = eval e X.env := by rfl) : PE X (.Attribute e n pos) (tKf X.K n te) := by
  refine ⟨fun pins s σ H Q I h => ?_⟩
  refine attr_of hb (thn (he.run pins s σ H _ I h) fun u s1 ⟨x, H1, I1, rx, q⟩ => ?_)
  obtain ⟨a, C, d, fs, v, rfl, ea, ed, E, hno, l, q⟩ := q
  obtain rfl : u = Value.ref a := rx
  obtain ⟨⟨oe, h1, hz, vs, hd⟩, _⟩ := (show ObjOk X.prog X.w H1 s1.heap a (kept a (.ref C) (some d)) from I1.hok a _ ea)
  obtain ⟨mA, hns, hr⟩ := (show ObjOk X.prog X.w H1 s1.heap d (.xd fs) from I1.hok d _ ed)
  obtain ⟨od, ho, hl⟩ := lookIn_ns hns
  obtain ⟨w, hu, ru⟩ := RelO.some_of (v := v) (o := mA n) (by rw [← l]; exact hr n)
  have J : PySem.W.InstAt s1.heap a oe C (some od) := ⟨h1, hz.1, by unfold PySem.W.notCls; rw [hd] <;> rfl, by rw [hz.2]; exact ho⟩
  exact HandSPX.exc_get I1.kIn J E.hg E.hk E.hs (PySem.W.findObj_own E.hd hno rfl (by rw [hl, hu])) (handed_of ru) ⟨v, H1, I1.tok _, ru, q⟩
mutual
inductive Dx (H : Hp) : V → PyData → Prop where
  | non : Dx H .non .none
  | bl (b : Bool) : Dx H (.bl b) (.bool b)
  | int (i : Int) : Dx H (.int i) (.int i)
  | str (x : Str) : Dx H (.str x) (.str x)
  | lst {a : Addr} {xs : List V} {ds : List PyData} (e : H a = some (.lst xs)) (h : DxAll H xs ds) : Dx H (.ref a) (.list ds)
  | tup {a : Addr} {xs : List V} {ds : List PyData} (e : H a = some (.tup xs)) (h : DxAll H xs ds) : Dx H (.ref a) (.tuple ds)
  | dk {a : Addr} (e : H a = some (.dK [])) : Dx H (.ref a) (.dict [])
inductive DxAll (H : Hp) : List V → List PyData → Prop where
  | nil : DxAll H [] []
  | cons {v : V} {vs : List V} {d : PyData} {ds : List PyData} (h : Dx H v d) (k : DxAll H vs ds) : DxAll H (v :: vs) (d :: ds)
end
mutual
theorem Dx.same {H H' : Hp} (s : Same H H') : ∀ {v : V} {d : PyData}, Dx H v d → Dx H' v d
  | _, _, .non => .non
  | _, _, .bl b => .bl b
  | _, _, .int i => .int i
  | _, _, .str x => .str x
  | _, _, .lst e h => .lst (s _ _ e) (DxAll.same s h)
  | _, _, .tup e h => .tup (s _ _ e) (DxAll.same s h)
  | _, _, .dk e => .dk (s _ _ e)
theorem DxAll.same {H H' : Hp} (s : Same H H') : ∀ {vs : List V} {ds : List PyData}, DxAll H vs ds → DxAll H' vs ds
  | _, _, .nil => .nil
  | _, _, .cons h k => .cons (Dx.same s h) (DxAll.same s k)
end
theorem DxAll.length {H : Hp} : ∀ {vs : List V} {ds : List PyData}, DxAll H vs ds → vs.length = ds.length
  | _, _, .nil => rfl
  | _, _, .cons _ k => by rw [List.length_cons, List.length_cons, k.length]
theorem DxAll.at {H : Hp} : ∀ {vs : List V} {ds : List PyData}, DxAll H vs ds → ∀ {i : Nat} {v : V}, vs[i]? = some v → ∃ d, ds[i]? = some d ∧ Dx H v d
  | _, _, .nil, _, _, e => nomatch e
  | _, _, .cons h _, 0, _, e => ⟨_, rfl, Option.some.inj e ▸ h⟩
  | _, _, .cons _ k, i + 1, _, e => k.at (i := i) e
theorem DxAll.at' {H : Hp} : ∀ {vs : List V} {ds : List PyData}, DxAll H vs ds → ∀ {i : Nat} {d : PyData}, ds[i]? = some d → ∃ v, vs[i]? = some v ∧ Dx H v d
  | _, _, .nil, _, _, e => nomatch e
  | _, _, .cons h _, 0, _, e => ⟨_, rfl, Option.some.inj e ▸ h⟩
  | _, _, .cons _ k, i + 1, _, e => k.at' (i := i) e
theorem DxAll.take {H : Hp} : ∀ {vs : List V} {ds : List PyData} (n : Nat), DxAll H vs ds → DxAll H (vs.take n) (ds.take n)
  | _, _, 0, _ => .nil
  | _, _, _ + 1, .nil => .nil
  | _, _, n + 1, .cons h k => .cons h (DxAll.take n k)
mutual
theorem Dx.dp {K : PySem.W.Frag} {H : Hp} : ∀ {v : V} {d : PyData}, Dx H v d → d.hasDict = false → Dp K H v d
  | _, _, .non, _ => .non
  | _, _, .bl b, _ => .bl b
  | _, _, .int i, _ => .int i
  | _, _, .str x, _ => .str x
  | _, _, .lst e h, z => .lst (.of e) (DxAll.dp h (by simpa [PyData.hasDict] using z))
  | _, _, .tup e h, z => .tup (.of e) (DxAll.dp h (by simpa [PyData.hasDict] using z))
  | _, _, .dk _, z => by simp [PyData.hasDict] at z
theorem DxAll.dp {K : PySem.W.Frag} {H : Hp} : ∀ {vs : List V} {ds : List PyData}, DxAll H vs ds → PyData.hasDictAll ds = false → DpAll K H vs ds
  | _, _, .nil, _ => .nil
  | _, _, .cons h k, z => by
    simp only [PyData.hasDictAll, Bool.or_eq_false_iff] at z
    exact .cons (Dx.dp h z.1) (DxAll.dp k z.2)
end
mutual
theorem Dx.one {H : Hp} : ∀ {v : V} {d d' : PyData}, Dx H v d → Dx H v d' → d = d'
  | _, _, _, .non, h => by cases h; rfl
  | _, _, _, .bl b, h => by cases h; rfl
  | _, _, _, .int i, h => by cases h; rfl
  | _, _, _, .str x, h => by cases h; rfl
  | _, _, _, .lst e k, h => by
    cases h with
    | lst e' k' => rw [e] at e'; cases e'; rw [DxAll.one k k']
    | tup e' _ => rw [e] at e'; cases e'
    | dk e' => rw [e] at e'; cases e'
  | _, _, _, .tup e k, h => by
    cases h with
    | tup e' k' => rw [e] at e'; cases e'; rw [DxAll.one k k']
    | lst e' _ => rw [e] at e'; cases e'
    | dk e' => rw [e] at e'; cases e'
  | _, _, _, .dk e, h => by
    cases h with
    | dk e' => rfl
    | lst e' _ => rw [e] at e'; cases e'
    | tup e' _ => rw [e] at e'; cases e'
theorem DxAll.one {H : Hp} : ∀ {vs : List V} {ds ds' : List PyData}, DxAll H vs ds → DxAll H vs ds' → ds = ds'
  | _, _, _, .nil, h => by cases h; rfl
  | _, _, _, .cons h k, q => by
    cases q with
    | cons h' k' => rw [Dx.one h h', DxAll.one k k']
end
/-- small enough to be shown: its weight, its depth -/
structure Fit (n k : Nat) (d : PyData) : Prop where
  sh : d.showable = true
  lv : d.leavesShort 600 = true
  wt : d.weight ≤ n
  dp : d.depth ≤ k
structure FitAll (n k : Nat) (ds : List PyData) : Prop where
  sh : PyData.showableAll ds = true
  lv : PyData.leavesShortAll 600 ds = true
  wt : PyData.weightAll ds ≤ n
  dp : PyData.depthAll ds ≤ k
theorem Fit.mono {n k n' k' : Nat} {d : PyData} (f : Fit n k d) (h : n ≤ n') (h2 : k ≤ k') : Fit n' k' d := ⟨f.sh, f.lv, Nat.le_trans f.wt h, Nat.le_trans f.dp h2⟩
theorem FitAll.nil {n k : Nat} : FitAll n k [] := ⟨by simp [PyData.showableAll], by simp [PyData.leavesShortAll], by simp [PyData.weightAll], by simp [PyData.depthAll]⟩
theorem FitAll.cons {n m k : Nat} {d : PyData} {ds : List PyData} (f : Fit n k d) (g : FitAll m k ds) : FitAll (n + 1 + m) k (d :: ds) :=
  ⟨by simp [PyData.showableAll, f.sh, g.sh], by simp [PyData.leavesShortAll, f.lv, g.lv], by simp only [PyData.weightAll]; have := f.wt; have := g.wt; omega, by simp only [PyData.depthAll]; have := f.dp; have := g.dp; omega⟩
theorem FitAll.of {n k : Nat} : ∀ {ds : List PyData}, (∀ d ∈ ds, Fit n k d) → FitAll ((n + 1) * ds.length) k ds
  | [], _ => .nil
  | d :: ds, h => by
    have f := h d (List.mem_cons_self ..)
    have g := FitAll.of fun x hx => h x (List.mem_cons_of_mem _ hx)
    have c := FitAll.cons f g
    refine ⟨c.sh, c.lv, ?_, c.dp⟩
    rw [List.length_cons, Nat.mul_add, Nat.mul_one]
    have := c.wt
    omega
theorem FitAll.mono {n k n' k' : Nat} {ds : List PyData} (f : FitAll n k ds) (h : n ≤ n') (h2 : k ≤ k') : FitAll n' k' ds := ⟨f.sh, f.lv, Nat.le_trans f.wt h, Nat.le_trans f.dp h2⟩
theorem FitAll.list {n k : Nat} {ds : List PyData} (f : FitAll n k ds) : Fit n (k + 1) (.list ds) := ⟨by simp only [PyData.showable]; exact f.sh, by simp only [PyData.leavesShort]; exact f.lv, by simp only [PyData.weight]; exact f.wt, by simp only [PyData.depth]; have := f.dp; omega⟩
theorem FitAll.tuple {n k : Nat} {ds : List PyData} (f : FitAll n k ds) : Fit n (k + 1) (.tuple ds) := ⟨by simp only [PyData.showable]; exact f.sh, by simp only [PyData.leavesShort]; exact f.lv, by simp only [PyData.weight]; exact f.wt, by simp only [PyData.depth]; have := f.dp; omega⟩
theorem Fit.line {n k : Nat} {d : PyData} (f : Fit n k d) (h : n ≤ 25000) : d.shown.length ≤ sizeLine := by
  have := PyData.shown_le 600 (by decide) d f.lv
  have := f.wt
  rw [sizeLine_eq]; omega
structure Nice (n k : Nat) (d : PyData) : Prop where
  ft : Fit n k d
  ly : d.canLay0 = true
structure NiceAll (n k : Nat) (ds : List PyData) : Prop where
  ft : FitAll n k ds
  ly : PyData.canLayAll0 ds = true
theorem Nice.mono {n k n' k' : Nat} {d : PyData} (f : Nice n k d) (h : n ≤ n') (h2 : k ≤ k') : Nice n' k' d := ⟨f.ft.mono h h2, f.ly⟩
theorem NiceAll.mono {n k n' k' : Nat} {ds : List PyData} (f : NiceAll n k ds) (h : n ≤ n') (h2 : k ≤ k') : NiceAll n' k' ds := ⟨f.ft.mono h h2, f.ly⟩
theorem NiceAll.nil {n k : Nat} : NiceAll n k [] := ⟨.nil, by simp [PyData.canLayAll0]⟩
theorem NiceAll.cons {n m k : Nat} {d : PyData} {ds : List PyData} (f : Nice n k d) (g : NiceAll m k ds) : NiceAll (n + 1 + m) k (d :: ds) := ⟨.cons f.ft g.ft, by simp [PyData.canLayAll0, f.ly, g.ly]⟩
theorem NiceAll.list {n k : Nat} {ds : List PyData} (f : NiceAll n k ds) : Nice n (k + 1) (.list ds) := ⟨f.ft.list, by simp only [PyData.canLay0]; exact f.ly⟩
theorem NiceAll.tuple {n k : Nat} {ds : List PyData} (f : NiceAll n k ds) : Nice n (k + 1) (.tuple ds) := ⟨f.ft.tuple, by simp only [PyData.canLay0]; exact f.ly⟩
theorem NiceAll.of {n k : Nat} : ∀ {ds : List PyData}, (∀ d ∈ ds, Nice n k d) → NiceAll ((n + 1) * ds.length) k ds := fun {ds} h =>
  ⟨.of fun d hd => (h d hd).ft, by
    induction ds with
    | nil => simp [PyData.canLayAll0]
    | cons x r ih =>
      simp only [PyData.canLayAll0, (h x (List.mem_cons_self ..)).ly, ih fun d hd => h d (List.mem_cons_of_mem _ hd), Bool.and_self]⟩
theorem nice_none {n k : Nat} : Nice n k .none := ⟨⟨by simp [PyData.showable], by decide +kernel, by simp [PyData.weight], by simp [PyData.depth]⟩, by simp [PyData.canLay0]⟩
theorem nice_bool {n k : Nat} (b : Bool) : Nice n k (.bool b) := ⟨⟨by simp [PyData.showable], by cases b <;> decide +kernel, by simp [PyData.weight], by simp [PyData.depth]⟩, by simp [PyData.canLay0]⟩
theorem nice_int {i : Int} {m k : Nat} (h : i.natAbs < 2 ^ m) (hm : m ≤ 160) : Nice m k (.int i) := by
  have h2 : (2 : Nat) ^ m ≤ 2 ^ 160 := Nat.pow_le_pow_right (by decide) hm
  have h3 : (2 : Nat) ^ 160 = 16 ^ 40 := by rw [show (16 : Nat) = 2 ^ 4 by decide, ← Nat.pow_mul]
  have l : i.natAbs ≠ 0 → i.natAbs.log2 < m := fun z => (Nat.log2_lt z).mpr h
  have l0 : i.natAbs = 0 → i.natAbs.log2 = 0 := fun z => by rw [z]; decide
  have e : (PyData.int i).shown.length ≤ 60 := by
    simp only [PyData.shown]
    have h4 : i.natAbs < 10 ^ 49 := Nat.lt_of_lt_of_le h (Nat.le_trans h2 (by decide))
    have e2 := int_text_length_le10 (k := 49) (by decide) h4
    rw [PySem.ofString_length]; omega
  refine ⟨⟨?_, ?_, ?_, by simp [PyData.depth]⟩, by simp [PyData.canLay0]⟩
  · have lm : i.natAbs.log2 ≤ m := by
      by_cases z : i.natAbs = 0
      · rw [l0 z]; omega
      · have := l z; omega
    simp only [PyData.showable]
    exact decide_eq_true (by omega)
  · simp only [PyData.leavesShort]; exact decide_eq_true (by omega)
  · simp only [PyData.weight]
    split
    · omega
    · rename_i z
      have : i.natAbs ≠ 0 := fun y => z (by simpa using y)
      have := l this
      omega
theorem nice_str {z : Str} {n k : Nat} (h : PyData.strOk z = true) (hn : z.cps.size ≤ n) : Nice n k (.str z) := by
  refine ⟨⟨by simp [PyData.showable], ?_, by simp only [PyData.weight]; exact hn, by simp [PyData.depth]⟩, by simp only [PyData.canLay0]; exact h⟩
  simp only [PyData.leavesShort]
  rw [List.all_eq_true]
  intro c hc
  unfold PyData.strOk at h
  rw [Array.all_eq_true_iff_forall_mem] at h
  have := of_decide_eq_true (h c (by simpa using hc))
  exact decide_eq_true (Nat.lt_trans this (by decide))
theorem nice_lit {z : Str} {n k : Nat} (h : (PyData.strOk z && decide (z.cps.size ≤ n)) = true) : Nice n k (.str z) := by
  rw [Bool.and_eq_true, decide_eq_true_iff] at h
  exact nice_str h.1 h.2
mutual
theorem lay_nodict : ∀ {d : PyData}, d.canLay0 = true → d.hasDict = false
  | .none, _ => by simp [PyData.hasDict]
  | .bool _, _ => by simp [PyData.hasDict]
  | .int _, _ => by simp [PyData.hasDict]
  | .str _, _ => by simp [PyData.hasDict]
  | .list ds, h => by simp only [PyData.canLay0, PyData.hasDict] at *; exact layAll_nodict h
  | .tuple ds, h => by simp only [PyData.canLay0, PyData.hasDict] at *; exact layAll_nodict h
  | .dict _, h => by simp [PyData.canLay0] at h
theorem layAll_nodict : ∀ {ds : List PyData}, PyData.canLayAll0 ds = true → PyData.hasDictAll ds = false
  | [], _ => by simp [PyData.hasDictAll]
  | d :: ds, h => by
    simp only [PyData.canLayAll0, PyData.hasDictAll, Bool.and_eq_true, Bool.or_eq_false_iff] at *
    exact ⟨lay_nodict h.1, layAll_nodict h.2⟩
end
theorem Nice.shaped {n k : Nat} {d : PyData} (f : Nice n k d) (h : k ≤ 64) : SeqAt.shaped d = true := by
  unfold SeqAt.shaped
  rw [f.ly]
  have := f.ft.dp
  simp; omega
theorem Nice.nd {n k : Nat} {d : PyData} (f : Nice n k d) : d.hasDict = false := lay_nodict f.ly
def SysAt (K : PySem.W.Frag) (H : Hp) : Prop := (∃ o, K.lookup sysModules = some o) ∨ ∃ o u, H sysModules = some (.frz o u)
theorem SysAt.same {K : PySem.W.Frag} {H H' : Hp} (y : SysAt K H) (s : Same H H') : SysAt K H' := by
  rcases y with y | ⟨o, u, y⟩
  · exact .inl y
  · exact .inr ⟨o, u, s _ _ y⟩
structure ScrS (P : Program) (w : World) (K : PySem.W.Frag) (h : Heap) (a : Addr) (ns : List Int) (H : Hp) : Prop where
  only : ∀ b, H b = none ∨ ∃ o u, H b = some (.frz o u)
  seq : SqL K H a (ns.map V.int)
  ok : HOk P w H h
  at' : ∀ b, H b ≠ none → K.lookup b = none ∧ (b = a ∨ b = sysModules)
  sys : SysAt K H
theorem scrS {P : Program} {w : World} {K : PySem.W.Frag} {h : Heap} {a : Addr} {vs : List Value} {ns : List Int} {os : Obj} (KX : K.In h)
    (ha : h.get? a = some { cls := .type "list", data := .seq vs.toArray }) (hi : IntsAre vs ns) (hl : ns.length ≤ sizeLine) (hs : h.get? sysModules = some os) (na : a ≠ sysModules) : ∃ H, ScrS P w K h a ns H := by
  obtain ⟨G, C⟩ := scr (P := P) (w := w) KX ha hi hl
  have ok0 : ∀ b, G b ≠ none → K.lookup b = none ∧ (b = a ∨ b = sysModules) := fun b e => by
    obtain ⟨z1, z2⟩ := C.at' b e
    subst z1
    exact ⟨z2, .inl rfl⟩
  have on0 : ∀ b, G b = none ∨ ∃ o u, G b = some (.frz o u) := fun b => by
    rcases C.only b with z | ⟨o, xs, z⟩
    · exact .inl z
    · exact .inr ⟨o, _, z⟩
  cases inK : K.lookup sysModules with
  | some o => exact ⟨G, on0, C.seq, C.ok, ok0, .inl ⟨o, inK⟩⟩
  | none =>
    have g1 : G sysModules = none := by
      cases e : G sysModules with
      | none => rfl
      | some o => exact absurd (C.at' sysModules (by rw [e]; exact fun z => nomatch z)).1.symm na
    refine ⟨upd G sysModules (.frz os (.own 0)), fun b => ?_, ?_, fun b o e => ?_, fun b e => ?_, .inr ⟨_, _, upd_same⟩⟩
    · rcases Decidable.em (b = sysModules) with z | z
      · subst z; exact .inr ⟨_, _, upd_same⟩
      · rw [upd_ne z]; exact on0 b
    · exact (same_new g1).seq C.seq
    · rcases Decidable.em (b = sysModules) with z | z
      · subst z
        rw [upd_same] at e
        cases e
        exact ⟨hs, ⟨_, hs⟩⟩
      · rw [upd_ne z] at e
        have k := C.ok b o e
        rcases C.only b with y | ⟨o', xs, y⟩
        · rw [y] at e; cases e
        · rw [y] at e; cases e; exact k
    · rcases Decidable.em (b = sysModules) with z | z
      · subst z; exact ⟨inK, .inr rfl⟩
      · rw [upd_ne z] at e; exact ok0 b e
theorem call_scrS {P : Program} {w : World} {K : PySem.W.Frag} {mg mb : Str → Option Value} {fa a : Addr} {s₁ : Shared} {vs : List Value} {ns : List Int}
    (KX : K.In s₁.heap) (hns : s₁.heap.Ns mainGlobals mg) (hb : s₁.heap.Ns builtinsNs mb) (hbb : ∀ x : Str, x ≠ "__name__" → mb x = bootBuiltins x) (hlim : s₁.heap.NoLimit) (hg : s₁.gens = #[]) (hsr : s₁.heap.NoSeer)
    (ha : s₁.heap.get? a = some { cls := .type "list", data := .seq vs.toArray }) (hi : IntsAre vs ns) (hl : ns.length ≤ sizeLine)
    (B : ∀ base H, K.In base → base.Ns mainGlobals mg → Env0 P w K mg base callerA [] s₁ H → SqL K H a (ns.map V.int) → SysAt K H →
      codeAny (model P w) callerA (.call (.ref fa) ⟨[.ref a], []⟩) (CR CX0 [] P w H s₁ (fun v _ => v = .bl true) fun _ _ _ => False) s₁) :
    codeAny (model P w) callerA (.call (.ref fa) ⟨[.ref a], []⟩) (fun r s' => r = .ok (.ret (.bool true)) ∧ OldK s₁.heap s'.heap ∧ s'.os = s₁.os ∧ AllBare s'.gens) s₁ := by
  obtain ⟨mm, ⟨os, ses, sep, hs, sd, _⟩, _⟩ := hsr.mods
  have na : a ≠ sysModules := fun e => by
    rw [e, hs] at ha
    have := Option.some.inj ha
    rw [this] at sd
    cases sd
  obtain ⟨H, C⟩ := scrS (P := P) (w := w) KX ha hi hl hs na
  have free : ∀ b o, s₁.heap.get? b = some o → b ≠ sysModules → (∀ n, o.data ≠ .seq vs.toArray n) → H b = none := fun b o e ns nd => by
    rcases Decidable.em (H b = none) with z | z
    · exact z
    · rcases (C.at' b z).2 with q | q
      · subst q
        rw [ha] at e
        cases e
        exact absurd rfl (nd _)
      · exact absurd q ns
  have ns_of : ∀ L m, L ≠ sysModules → s₁.heap.Ns L m → (hidT s₁.heap H).Ns L m := fun L m nl n => by
    obtain ⟨o, es, ep, e, d, r⟩ := n
    exact ⟨o, es, ep, hidT_get e (free _ _ e nl fun k z => by rw [d] at z; cases z), d, r⟩
  have kin : K.In (hidT s₁.heap H) := fun b o e => by
    refine hidT_get (KX b o e) ?_
    rcases Decidable.em (H b = none) with z | z
    · exact z
    · rw [(C.at' b z).1] at e; cases e
  obtain ⟨mc, l1, l2⟩ := hlim
  have e0 : Env0 P w K mg (hidT s₁.heap H) callerA [] s₁ H :=
    ⟨rfl, ⟨kin, ns_of _ _ (by decide) hns, ⟨mb, ns_of _ _ (by decide) hb, hbb⟩, mc, ns_of _ _ (by decide) l1, l2⟩, fun b o e => of_hidT e, Nat.le_of_eq (hidT_size _ _), trivial, fun b z => absurd (show b ∈ ([] : List Addr) from z) (by simp), C.ok, AllBare.of_eq hg⟩
  refine codeAny_mono (B _ H kin (ns_of _ _ (by decide) hns) e0 C.seq C.sys) fun r s' got => ?_
  match r, got with
  | .ok (.ret u), ⟨v, H', os', bare, un, hok', rv, q⟩ =>
    cases q
    cases rv
    refine ⟨rfl, OldK.of_keep fun b o e => ?_, os', bare⟩
    rcases C.only b with z | ⟨ob, xs, z⟩
    · exact un.keep b o e z (fun y => nomatch y) (fun y => nomatch y)
    · have o1 := (C.ok b _ z).1
      have o2 := (hok' b _ (un.frzs b ob _ z)).1
      have := Option.some.inj (o1.symm.trans e)
      subst this
      exact o2
  | .ok .next, z => exact False.elim z
  | .ok .brk, z => exact False.elim z
  | .ok .cont, z => exact False.elim z
  | .error e, z => exact False.elim z
theorem walk_scrS {l : PySem.W.OpenLaw} {n : Nat} {q : Program} {loose : List Str} {XP : (Str → Option Value) → Heap → Prop} {YP : World → Heap → Prop} {d : DefRec} {K : Params → PySem.W.Frag}
    (hn : l.most = some n) (hn2 : n ≤ sizeLine) (hdf : d.params.defaults = []) (hq : importsNone q = true) (hY : ∀ (w : World) (h : Heap), YP w h → (K w.params).In h)
    (F : ∀ (w : World) (mg : Str → Option Value) (fa : Addr) (h : Heap), (K w.params).In h → h.Ns mainGlobals mg → mg d.name = some (.ref fa) →
      ∀ (base : Heap) (H : Hp) (s : Shared) (a : Addr) (ns : List Int), (K w.params).In base → base.Ns mainGlobals mg → Env0 l.prog w (K w.params) mg base callerA [] s H → SqL (K w.params) H a (ns.map V.int) → ns.length ≤ n → SysAt (K w.params) H →
        codeAny (model l.prog w) callerA (.call (.ref fa) ⟨[.ref a], []⟩) (CR CX0 [] l.prog w H s (fun v _ => v = .bl true) fun _ _ _ => False) s) :
    PySem.W.WalkO q loose XP YP l.row.toRowW d [] (fun f vs => PySem.call f vs) := by
  refine Att.attach_call hn hdf fun w s₀ s₁ mg mb fa o pm cd doc a vs ns G Y _ _ _ hmg hobj hints hlen hg => ?_
  have KX := hY w _ Y
  exact call_scrS KX G.T.g G.T.b G.T.builtins G.T.nolimit hg (G.T.seer hq) hobj hints (Nat.le_trans hlen hn2) fun base H kb nb e0 hS sy => F w mg fa _ KX G.T.g hmg base H s₁ a ns kb nb e0 hS hlen sy
mutual
theorem Dx.reads {X : Cx} {pins : List (Addr × Obj)} {σ : L2.St} {H G : Hp} {s : Shared} (I : Inv X pins σ H s) (sm : Same G H) (sy : ∀ (b : Addr) (o : HO), H b = some o → (∀ x u, o ≠ .frz x u) → b ≠ sysModules) : ∀ (d : PyData) (v : V) (u : Value), Dx G v d → RelV v u → ∃ as, Reads s.heap u d as ∧ sysModules ∉ as
  | .none, _, _, h, r => by cases h; cases r; exact ⟨_, Reads.none, by simp⟩
  | .bool b, _, _, h, r => by cases h; cases r; exact ⟨_, Reads.bool b, by simp⟩
  | .int i, _, _, h, r => by cases h; obtain ⟨t, rfl⟩ := r; exact ⟨_, Reads.int i t, by simp⟩
  | .str x, _, _, h, r => by cases h; obtain ⟨t, rfl⟩ := r; exact ⟨_, Reads.str x t, by simp⟩
  | .list ds, _, _, h, r => by
    cases h with
    | lst e k =>
      cases r
      have ea := sm _ _ e
      obtain ⟨its, rv, ⟨o, n, ho, hc, _, hd⟩, _⟩ := I.list (.of ea)
      obtain ⟨as, hr, ns⟩ := Dx.readsAll I sm sy ds _ its k rv
      refine ⟨_, Reads.list ho hc hd hr, fun hm => ?_⟩
      rcases List.mem_cons.mp hm with z | z
      · exact sy _ _ ea (fun _ _ => nofun) z.symm
      · exact ns z
  | .tuple ds, _, _, h, r => by
    cases h with
    | tup e k =>
      cases r
      have ea := sm _ _ e
      obtain ⟨its, rv, ⟨o, ho, hc, n, hd⟩, _⟩ := I.tuple (.of ea)
      obtain ⟨as, hr, ns⟩ := Dx.readsAll I sm sy ds _ its k rv
      exact ⟨_, Reads.tuple ho hc hd hr, ns⟩
  | .dict _, _, _, h, r => by
    cases h with
    | dk e =>
      cases r
      have ea := sm _ _ e
      obtain ⟨_, ns, vs, kv, dd⟩ := dk_of I.hok ea
      cases kv
      obtain ⟨o, es, ep, h1, h2, h3, h4⟩ := dd
      have z : es = #[] := by
        have hp := h4.2.1
        rcases es with ⟨l⟩
        cases l with
        | nil => rfl
        | cons x r => first | cases hp | exact hp.elim | simp at hp
      subst z
      refine ⟨_, Reads.dict (as := []) (bs := []) h1 h2.1 h3 .nil .nil, fun hm => ?_⟩
      rcases List.mem_cons.mp hm with y | y
      · rw [← y] at ns
        exact absurd ns (by decide)
      · cases y
theorem Dx.readsAll {X : Cx} {pins : List (Addr × Obj)} {σ : L2.St} {H G : Hp} {s : Shared} (I : Inv X pins σ H s) (sm : Same G H) (sy : ∀ (b : Addr) (o : HO), H b = some o → (∀ x u, o ≠ .frz x u) → b ≠ sysModules) : ∀ (ds : List PyData) (vs : List V) (us : List Value), DxAll G vs ds → Vals vs us → ∃ as, ReadsAll s.heap us ds as ∧ sysModules ∉ as
  | [], _, _, h, r => by cases h; cases r; exact ⟨_, ReadsAll.nil, by simp⟩
  | d :: ds, _, _, h, r => by
    cases h with
    | cons h1 h2 =>
      cases r with
      | cons r1 r2 =>
        obtain ⟨as, q1, n1⟩ := Dx.reads I sm sy d _ _ h1 r1
        obtain ⟨bs, q2, n2⟩ := Dx.readsAll I sm sy ds _ _ h2 r2
        exact ⟨_, ReadsAll.cons q1 q2, fun hm => (List.mem_append.mp hm).elim n1 n2⟩
end
def rReprX (K : PySem.W.Frag) : List V → Hp → VK → Prop := fun xs H Q => ∃ (x : V) (d : PyData) (n : Nat), xs = [x] ∧ (∃ G, Same G H ∧ Dx G x d) ∧ SysAt K H ∧ Fit n 50 d ∧ n ≤ 25000 ∧ Q (.str d.shown) H
theorem call_reprX {X : Cx} (gd : X.A.guards = some []) (hu : X.A.units + 64 < cLine) : CallR X (.builtin "repr") (rReprX X.K) := by
  intro pins s σ H xs us Q I r h
  obtain ⟨x, d, n, rfl, ⟨G, sm, hd⟩, sy, ft, hn, hq⟩ := h
  obtain ⟨u, rfl, ru⟩ := r.one
  have hz := ft.line hn
  have hdp := ft.dp
  have sys : ∀ (b : Addr) (o : HO), H b = some o → (∀ x u, o ≠ .frz x u) → b ≠ sysModules := fun b o e nf z => by
    subst z
    rcases sy with ⟨ox, q⟩ | ⟨ox, ux, q⟩
    · have := (I.bs _ _ (I.ok.mod.kin _ _ q)).2
      rw [this] at e; cases e
    · rw [q] at e; cases e; exact nf _ _ rfl
  obtain ⟨as, rd, ns⟩ := Dx.reads I sm sys d x u hd ru
  have byRef : ∀ a, u = .ref a → wpAny (model X.prog X.w) X.A (call (.builtin "repr") [u]) (EP X pins σ Q) X.xe s := fun a e => by
    subst e
    exact repr_of_reads' rd ft.sh (fun _ => ns) gd (by omega) (fun _ _ z => z) (fun h' v tk k => ⟨.str d.shown, H, I.kept (t' := tk) k, ⟨_, rfl⟩, hq⟩) hz
  have hs := ft.sh
  cases hd with
  | non => cases ru; exact PySem.P.repr_of_none ⟨.str "None", H, I.tok _, ⟨_, rfl⟩, hq⟩
  | bl b => cases ru; exact PySem.P.repr_of_bool ⟨.str (if b then "True" else "False"), H, I.tok _, ⟨_, rfl⟩, hq⟩
  | int i => obtain ⟨t, rfl⟩ := ru; exact PySem.P.repr_of_int (of_decide_eq_true hs) ⟨.str (toString i), H, I.tok _, ⟨_, rfl⟩, hq⟩
  | str z => obtain ⟨t, rfl⟩ := ru; exact PySem.P.repr_of_str ⟨.str (reprText z), H, I.tok _, ⟨_, rfl⟩, hq⟩ hz
  | lst _ _ => exact byRef _ ru
  | tup _ _ => exact byRef _ ru
  | dk _ => exact byRef _ ru
def look {α : Type} : List (Str × α) → Str → Option α
  | [], _ => none
  | (k, R) :: r, z => if k = z then some R else look r z
theorem look_pos {α : Type} {k z : Str} {a : α} {r : List (Str × α)} (h : k = z) : look ((k, a) :: r) z = some a := if_pos h
theorem look_neg {α : Type} {k z : Str} {a : α} {r : List (Str × α)} (h : k ≠ z) : look ((k, a) :: r) z = look r z := if_neg h
local macro_rules | `(tactic| walk_at "look") => `(tactic| first | exact look_pos rfl | (refine (look_neg ?kne).trans ?krest; (case kne => decide +kernel); (case krest => walk_at "look")) | rfl)
inductive SK where
  | l | t | s
def SrcIt : SK → V → Addr → Nat → Heap → Prop
  | .l, .ref a, it, i, h => h.IsListIter it a i
  | .t, .ref a, it, i, h => h.IsTupleIter it a i
  | .s, .str z, it, i, h => ∃ t, h.IsStrIter it (strIterType z) z t i
  | _, _, _, _, _ => False
theorem SrcIt.at {k : SK} {v : V} {it : Addr} {i : Nat} {h h' : Heap} (x : SrcIt k v it i h) (e : ∀ o, h.get? it = some o → h'.get? it = some o) : SrcIt k v it i h' := by
  unfold SrcIt at *
  split at x
  · exact x.at e
  · exact x.at e
  · obtain ⟨t, o, h1, h2⟩ := x
    exact ⟨t, o, e _ h1, h2⟩
  · exact x.elim
/-- what __init__ keeps, the second field ahead -/
def spErr2 (C : Addr) (f g : Str) : Sp := fun vs H Q _ => ∃ (a : Addr) (v u : V), vs = [.ref a, v, u] ∧ H a = some (exo a C none) ∧ ∀ dx, H dx = none → dx ≠ a → Q .non (upd (upd (upd H dx (exd dx [(f, v)])) a (exo a C (some dx))) dx (exd dx [(g, u), (f, v)]))
theorem pe_mk {X : Cx} {e : Expr} {t : L2.St → Hp → XK → Prop} (he : PMk X e t) (hex : X.ex = [] := by rfl) : PE X e (fun σ H Q => t σ H fun cls d H1 => ∀ a, H1 a = none → Q (.ref a) (upd H1 a (kept a cls d))) := by
  refine ⟨fun pins s σ H Q I h => thn (he pins s σ H _ I h) fun u s1 hu => ?_⟩
  obtain ⟨a, oe, vs, sI, H', cls, d, rfl, J, k, hne, ha, hz, hd, h1, na, os, ag, r, q⟩ := hu
  have J1 := J.kept (t' := s1.toks) k
  have J2 : Inv X pins σ H' s1 := ⟨J1.ok, by rw [os]; exact J1.os, ag, J1.base, J1.loc, J1.cell, J1.free, J1.freeC, J1.pin, J1.hok, J1.len⟩
  have n0 : X.s_0.heap.get? a = none := by
    cases e : X.s_0.heap.get? a with
    | none => rfl
    | some o =>
      obtain ⟨o', e'⟩ := J.base.there a o e (by rw [hex]; exact fun z => nomatch z)
      rw [hne] at e'
      cases e'
  have nL : a ≠ X.env.locals := fun z => by
    obtain ⟨m, hns, _⟩ := J.loc
    obtain ⟨o, _, _, hg, _⟩ := hns
    rw [← z, hne] at hg
    cases hg
  have npin : ∀ p ∈ X.pn ++ pins, p.1 ≠ a := fun p hp z => by
    obtain ⟨e, _⟩ := J.pin p hp
    rw [z, hne] at e
    cases e
  exact ⟨.ref a, _, My.Inv.track J2 ha hz hd na n0 nL npin, rfl, q a na⟩
section
open PySem.W PySem.Calls PySem.HandSPX Builtin Builtin.ObjectAttr
section
variable {M : Model} {A : Around} {E : Value → Shared → Prop} {h : Heap} {g : Array GenState} {d : Drawn} {t : Nat} {os : OsState}
variable {nm q : Str} {C N : Addr} {bs bm bmB : List Value} {hdct : Bool} {sn : List Str} {sub : List Value} {ab : Bool} {col : Option Bool} {dd : Option Addr} {k0 k1 k2 k3 k5 : Option Value} {B newId initId : String}
/-- what is asked of the classes behind the own one: B makes it, none of the two with fields of their own is among them -/
structure BehG (bm : List Value) (B : String) : Prop where
  mB : bm.contains (.type B) = true
  at' : bm.contains (.type "AttributeError") = false
  nm : bm.contains (.type "NameError") = false
  ob : bm.contains (.type "object") = true
  ne : bm.isEmpty = false
  pass : ∀ self : Value, refuseLoop self "__setattr__" bm = pure ()
theorem BehG.ref {bm : List Value} {B : String} {D : Addr} (b : BehG bm B) : BehG (.ref D :: bm) B where
  mB := by rw [List.contains_cons, b.mB, Bool.or_true]
  at' := by rw [List.contains_cons, b.at']; rfl
  nm := by rw [List.contains_cons, b.nm]; rfl
  ob := by rw [List.contains_cons, b.ob, Bool.or_true]
  ne := rfl
  pass := fun self => by rw [refuseLoop_ref]; exact b.pass self
theorem newG_check (F : ExcBaseFacts B newId initId bmB) (b : BehG bm B) {rest : List Value} {Q : Unit → Shared → Prop}
    (hC : h.get? C = some (excClassObj nm q C N bs bm hdct sn sub ab col dd k0 k1 k2 k3 k5 newId)) (hq : Q () ⟨h, g, d, t, os⟩) : wpAny M A (checkBuiltinCall newId ⟨.ref C :: rest, []⟩) Q E ⟨h, g, d, t, os⟩ := by
  have cB := (b.ref (D := C)).mB
  have st := F.noStar
  simp only [checkBuiltinCall, F.newKind, F.newSplit, F.newRow]
  repeat (first | refine wpAny_loadPart_at hC ?_ | (refine wpAny_isSubtype_exc hC ?_; rw [cB]) | refine wpAny_staticBase_exc hC ?_ | refine wpAny_madeBy_exc hC ?_ | simp only [bne_self_eq_false, Bool.false_eq_true, if_false] | wp_step)
  exact hq
end
section
variable {prog : Program} {w : World} {A : Around} {E : Value → Shared → Prop} {R : Result → Shared → Prop} {h : Heap} {g : Array GenState} {d : Drawn} {t : Nat} {os : OsState}
variable {nm q : Str} {C N : Addr} {bs bm bmB : List Value} {hdct : Bool} {sn : List Str} {sub : List Value} {ab : Bool} {col : Option Bool} {dd : Option Addr} {k0 k1 k2 k3 k5 : Option Value} {B newId initId : String}
theorem newG (F : ExcBaseFacts B newId initId bmB) (b : BehG bm B) {rest : List Value}
    (hC : h.get? C = some (excClassObj nm q C N bs bm hdct sn sub ab col dd k0 k1 k2 k3 k5 newId))
    (hq : R (.ok (.ret (.ref (h.objs.size + 1)))) ⟨(h.push (kdv_tup rest)).push (excO C h.objs.size), g, d, t, os⟩) (hr : rest.length ≤ sizeLine) :
    codeAny (model prog w) A (.builtin newId ⟨.ref C :: rest, []⟩) R ⟨h, g, d, t, os⟩ := by
  have en := F.ends
  obtain ⟨cB, cA, cN, _, _, _⟩ := b.ref (D := C)
  refine codeAny_builtinAt F.entry ?_
  unfold Builtin.«BaseException.__new__»
  refine PySem.wpAt_bind ?_
  show PySem.wpAt _ _ _ (stack >>= _) _ _ _
  refine PySem.wpAt_bind (PySem.wpAt_stack fun p below => PySem.wpAt_of_wpAny ?_)
  wp_walk
  refine PySem.wpAt_of_wpAny ?_
  rw [F.owner]
  repeat (first | with_reducible refine wpAny_madeHere_exc F.canon hC ?_ | with_reducible refine wpAny_loadPart_at hC ?_ | (with_reducible refine wpAny_isSubtype_exc hC ?_; first | rw [cB] | rw [cA] | rw [cN]) | wp_step)
  show R _ _
  rw [Heap.size_push]
  exact hq
theorem type_callG (F : ExcBaseFacts B newId initId bmB) (b : BehG bm B) {rest : List Value} {fI : Addr} {Q : Fin → Shared → Prop}
    (hC : h.get? C = some (excClassObj nm q C N bs bm hdct sn sub ab col dd k0 k1 k2 k3 k5 newId))
    (hi : Looks (model prog w) h (typeLookup (.ref C) "__init__") (some (.ref fI))) (hb : ∀ self, Looks (model prog w) h (bindSpecial (.ref fI) self) (.ref fI, [self])) (hr : rest.length ≤ sizeLine)
    (hq : codeAny (model prog w) A (.call (.ref fI) ⟨.ref (h.objs.size + 1) :: rest, []⟩)
      (fun r s' => match r with | .ok (.ret v) => v = .none ∧ Q (.done (.ret (.ref (h.objs.size + 1)))) s' | .ok _ => False | .error e => E e s')
      ⟨(h.push (kdv_tup rest)).push (excO C h.objs.size), g, d, t, os⟩) :
    wpAny (model prog w) A (Builtin.«type.__call__» ⟨.ref C :: rest, []⟩) Q E ⟨h, g, d, t, os⟩ := by
  repeat (first | with_reducible refine wpAny_loadPart_at hC ?_ | with_reducible refine wpAny_madeBy_exc hC ?_ | wp_step)
  refine codeAny_call_builtin_code (Code.quiet_builtin _ F.quiet) (newG_check F b hC ?_)
  refine newG F b hC ?_ hr
  show wpAny _ _ _ _ _ _
  have k : ∀ x o, h.get? x = some o → ((h.push (kdv_tup rest)).push (excO C h.objs.size)).get? x = some o := fun x o e => Heap.get?_push_of_some _ (Heap.get?_push_of_some _ e)
  have hC1 := k _ _ hC
  have gt : ((h.push (kdv_tup rest)).push (excO C h.objs.size)).get? (h.objs.size + 1) = some (excO C h.objs.size) := by heap_get
  have cC : (Value.ref C :: bm).contains (.ref C) = true := by simp
  have i1 := hi.keeps k
  have b1 := (hb (.ref (h.objs.size + 1))).keeps k
  unfold isInstance
  repeat (first | with_reducible refine wpAny_loadPart_at gt ?_ | (with_reducible refine wpAny_isSubtype_exc hC1 ?_; rw [cC]) | wp_step)
  show wpAny _ _ (typeLookup (.ref C) _) _ _ _
  refine i1.at ?_
  refine wpAny_holding (wpAny_bind (b1.at ?_))
  refine wpAny_bind (wpAny_call (codeAny_mono hq fun r s' z => ?_))
  rcases r with e | (v | _ | _ | _) <;> first | exact z | exact z.elim | skip
  obtain ⟨rfl, z⟩ := z
  first
    | exact wpAny_pure (wpAny_pure z)
    | (wp_walk; exact z)
theorem callG (F : ExcBaseFacts B newId initId bmB) (b : BehG bm B) {rest : List Value} {fI : Addr}
    (hC : h.get? C = some (excClassObj nm q C N bs bm hdct sn sub ab col dd k0 k1 k2 k3 k5 newId))
    (hi : Looks (model prog w) h (typeLookup (.ref C) "__init__") (some (.ref fI))) (hb : ∀ self, Looks (model prog w) h (bindSpecial (.ref fI) self) (.ref fI, [self])) (hr : rest.length ≤ sizeLine)
    (hq : codeAny (model prog w) (A.under (.builtin "type.__call__" ⟨.ref C :: rest, []⟩)) (.call (.ref fI) ⟨.ref (h.objs.size + 1) :: rest, []⟩) (InitBack (h.objs.size + 1) R)
      ⟨(h.push (kdv_tup rest)).push (excO C h.objs.size), g, d, t, os⟩) :
    codeAny (model prog w) A (.call (.ref C) ⟨rest, []⟩) R ⟨h, g, d, t, os⟩ := by
  have f1 := tc_lookup
  have f2 := tc_bind (.ref C)
  have ty : (⟨h, g, d, t, os⟩ : Shared).TypeIs (.ref C) "type" := ⟨_, hC, rfl⟩
  refine codeAny_of_tree ?_
  show wpAny _ _ (callAny (.ref C) _) _ _ _
  repeat (any_goals (first | assumption | with_reducible refine wpAny_loadPart_at hC ?_ | wp_step))
  refine ⟨rfl, ?_⟩
  refine codeAny_call_builtin_at (Code.quiet_builtin _ (by decide +kernel)) entry_typeCall (wpAny_check_type_call_sub hC (type_callG F b hC hi hb hr ?_))
  refine codeAny_mono hq fun r s' z => ?_
  rcases r with e | (v | _ | _ | _) <;> exact z
end
section
variable {prog : Program} {w : World} {A : Around} {E : Value → Shared → Prop} {R : Result → Shared → Prop} {hp : Heap} {g : Array GenState} {d : Drawn} {t : Nat} {os : OsState}
/-- self.f = v: of any error whose classes let it pass, with its dict or not yet -/
theorem store_anyG {K : Frag} {name : Str} {tk : Tok} {v : Value} {x C : Addr} {fv : Array Value} {cd : ClassData} {dx? : Option Addr} {od : Option Obj}
    (X : K.In hp) (I : InstAt hp x { cls := .ref C, dict := dx?, data := .fields fv } C od) (hcd : clsIn K C = some cd) (pass : ∀ self : Value, refuseLoop self "__setattr__" cd.mro = pure ()) (ne : cd.mro.isEmpty = false) (ob : cd.mro.contains (.type "object") = true) (ha : findIn K (.ref C) name = some none)
    (hq : wpAny (model prog w) A.in1 (storeInOwnDict (.ref x) (.ref C) (.str name tk) name v false) (fun fin s' => match fin with | .done f => R (.ok f) s' | .again c' => c'.quiet = true ∧ codeAny (model prog w) A c' R s') (fun e s' => R (.error e) s') ⟨hp, g, d, t, os⟩) :
    codeAny (model prog w) A (.call (.builtin "object.__setattr__") ⟨[.ref x, .str name tk, v], []⟩) R ⟨hp, g, d, t, os⟩ := by
  have SF := F.store_object
  have sub : Looks (model prog w) hp (isInstance (.ref x) (.type "object")) true := I.type.andThen (looks_mroIn X (by unfold mroIn; rw [hcd, Option.bind_some, if_neg (by rw [ne]; decide), ob]))
  refine codeAny_call_builtin SF.slot.plain SF.entry (@check_slot (model prog w) _ _ ⟨hp, g, d, t, os⟩ "object.__setattr__" "object" "__setattr__" (.ref x) [.str name tk, v] [] _ SF.kind SF.split sub (SF.args (.ref x) (.str name tk) v) ?_)
  have hmr : Looks (model prog w) hp (mroOf (.ref C)) cd.mro := (looks_clsIn X hcd).andThen .now
  have L3 : Looks (model prog w) hp (storeTaker? none) none := .now
  rw [osa_eq, refuse_eq]
  refine wpAny_bind (wpAny_bind (I.type.at (wpAny_bind (hmr.at ?_))))
  rw [pass]
  refine wpAny_pure (wpAny_bind (I.type.at (wpAny_bind ((looks_findIn X ha).at (wpAny_bind (L3.at ?_))))))
  exact hq
theorem store_newG {K : Frag} {name : Str} {tk : Tok} {v : Value} {x C : Addr} {fv : Array Value} {cd : ClassData}
    (X : K.In hp) (hx : hp.get? x = some { cls := .ref C, data := .fields fv }) (hcd : clsIn K C = some cd) (pass : ∀ self : Value, refuseLoop self "__setattr__" cd.mro = pure ()) (ne : cd.mro.isEmpty = false) (ob : cd.mro.contains (.type "object") = true) (hh : cd.hasDict = true) (ha : findIn K (.ref C) name = some none)
    (hq : ∀ h' tk' dx, (∀ b o, b ≠ x → hp.get? b = some o → h'.get? b = some o) → hp.objs.size ≤ dx → dx ≠ x → h'.get? x = some { cls := .ref C, dict := some dx, data := .fields fv } →
      h'.Ns1 dx (fun y => if y = name then some v else none) → R (.ok (.ret .none)) ⟨h', g, d, tk', os⟩) :
    codeAny (model prog w) A (.call (.builtin "object.__setattr__") ⟨[.ref x, .str name tk, v], []⟩) R ⟨hp, g, d, t, os⟩ := by
  have xs : x ≠ hp.objs.size := Nat.ne_of_lt (Heap.lt_size hx)
  have lc : Looks (model prog w) hp (classData C) cd := looks_clsIn X hcd
  refine store_anyG (od := none) X ⟨hx, rfl, rfl, trivial⟩ hcd pass ne ob ha ?_
  obtain ⟨_, _, _, _, _, hd, _, _, _, _, _⟩ := cd
  have hh : hd = true := hh
  subst hh
  unfold storeInOwnDict ownDictForStores
  repeat (first | with_reducible refine store_in_new ?_ ?_ | with_reducible refine wpAny_loadPart_at hx ?_ | with_reducible refine lc.at ?_ | wp_step)
  · exact ⟨_, #[], _, (Heap.get?_update_ne _ _ _ _ xs.symm).trans (Heap.get?_push_at rfl rfl), rfl, fun e he => absurd he (by simp), fun _ => rfl⟩
  · intro h' tk' hn' hs
    have x1 : (hp.push { cls := .type "dict", data := .dict #[] }).get? x = some { cls := .ref C, data := .fields fv } := Heap.get?_push_of_some _ hx
    refine hq h' tk' hp.objs.size (fun b o hb ho => ?_) (Nat.le_refl _) xs.symm ?_ hn'
    · exact (hs.2 b (Nat.ne_of_lt (Heap.lt_size ho))).trans ((Heap.get?_update_ne _ _ _ _ hb).trans (Heap.get?_push_of_some _ ho))
    · exact (hs.2 x xs).trans (Heap.get?_update_self _ x1 rfl)
theorem store_oldG {K : Frag} {name : Str} {tk : Tok} {v : Value} {x C dx : Addr} {fv : Array Value} {cd : ClassData} {m0 : Str → Option Value} {nl : List Str}
    (X : K.In hp) (hx : hp.get? x = some { cls := .ref C, dict := some dx, data := .fields fv }) (hns : hp.Ns1 dx m0) (hw : PySem.Within m0 nl) (hz : nl.length ≤ 1000) (hcd : clsIn K C = some cd) (pass : ∀ self : Value, refuseLoop self "__setattr__" cd.mro = pure ()) (ne : cd.mro.isEmpty = false) (ob : cd.mro.contains (.type "object") = true) (hh : cd.hasDict = true) (ha : findIn K (.ref C) name = some none)
    (hq : ∀ h' tk', (∀ b o, b ≠ dx → hp.get? b = some o → h'.get? b = some o) → h'.Ns1 dx (fun y => if y = name then some v else m0 y) → R (.ok (.ret .none)) ⟨h', g, d, tk', os⟩) :
    codeAny (model prog w) A (.call (.builtin "object.__setattr__") ⟨[.ref x, .str name tk, v], []⟩) R ⟨hp, g, d, t, os⟩ := by
  obtain ⟨oD, _, _, hoD, _, _⟩ := hns.count hw
  have lc : Looks (model prog w) hp (classData C) cd := looks_clsIn X hcd
  refine store_anyG (od := some oD) X ⟨hx, rfl, rfl, hoD⟩ hcd pass ne ob ha ?_
  obtain ⟨_, _, _, _, _, hd, _, _, _, _, _⟩ := cd
  have hh : hd = true := hh
  subst hh
  unfold storeInOwnDict ownDictForStores
  repeat (first | with_reducible refine PySem.OEX.store_in_old hns hw hz ?_ | with_reducible refine wpAny_loadPart_at hx ?_ | with_reducible refine lc.at ?_ | wp_step)
  intro h' tk' hn' hs
  exact hq h' tk' (fun b o hb ho => (hs.2 b hb).trans ho) hn'
end
end
/-- what the written part says of a class of errors: over any built-in one -/
structure OexG (K : PySem.W.Frag) (C : Addr) : Prop where
  cls : ∃ nm q N bs bm sn sub ab col dd k0 k1 k2 k3 k5 B newId initId bmB, K.lookup C = some (excClassObj nm q C N bs bm true sn sub ab col dd k0 k1 k2 k3 k5 newId) ∧ ExcBaseFacts B newId initId bmB ∧ BehG bm B
  sa : PySem.W.findIn K (.ref C) "__setattr__" = some (some (.builtin "object.__setattr__"))
  exC : PySem.W.subIn K (.ref C) (.type "BaseException") = some true
  tyC : PySem.W.typeIn K (.ref C) = some (.type "type")
  kC : PySem.W.keepIn K (.ref C) = true
section
variable {X : Cx} {pins : List (Addr × Obj)} {σ : L2.St} {H : Hp} {s : Shared} {a C dx : Addr} {f : Str} {y : V} {u : Value} {fs : List (Str × V)} {Q : Unit → Shared → Prop} {E : Value → Shared → Prop} {A : Around}
theorem OexG.data (T : OexG X.K C) : ∃ cd, PySem.W.clsIn X.K C = some cd ∧ cd.hasDict = true ∧ (∀ self : Value, refuseLoop self "__setattr__" cd.mro = pure ()) ∧ cd.mro.isEmpty = false ∧ cd.mro.contains (.type "object") = true := by
  obtain ⟨nm, q, N, bs, bm, sn, sub, ab, col, dd, k0, k1, k2, k3, k5, B, newId, initId, bmB, hC, F, b⟩ := T.cls
  refine ⟨{ name := nm, bases := bs, mro := .ref C :: bm, ns := N, qualname := q, hasDict := true, slotNames := sn, subclasses := sub, abstract := ab, collection := col, hasDel := false }, by unfold PySem.W.clsIn; rw [hC] <;> rfl, rfl, (b.ref (D := C)).pass, rfl, (b.ref (D := C)).ob⟩
/-- self.f = y, the first one -/
theorem putG_new (T : OexG X.K C) (I : Inv X pins σ H s) (e : H a = some (exo a C none)) (hno : PySem.W.findIn X.K (.ref C) f = some none) (ry : RelV y u)
    (h : ∀ dx s', H dx = none → dx ≠ a → Inv X pins σ (upd (upd H dx (exd dx [(f, y)])) a (exo a C (some dx))) s' → Q () s') : wpAny (model X.prog X.w) A (setAttr (.ref a) f u) Q E s := by
  obtain ⟨cd, hcl, hh, pass, ne, ob⟩ := T.data
  obtain ⟨t1, ho⟩ := exo_at I.hok e
  obtain ⟨hp, g, d, t, os⟩ := s
  refine PySem.W.set_plain I.kIn (ox := { cls := .ref C, dict := none, data := .fields #[.ref t1, .none, .none, .none, .bool false, .none] }) (od := none) ⟨ho, rfl, rfl, trivial⟩ T.sa ?_
  refine store_newG I.kIn ho hcl pass ne ob hh hno (fun h' tk' dx k dn dne hx hn => ?_)
  have fr : H dx = none := I.hok.fresh dn
  have nd : ∀ {b : Addr} {o : Obj}, hp.get? b = some o → b ≠ dx := fun {b o} q => Nat.ne_of_lt (Nat.lt_of_lt_of_le (Heap.lt_size q) dn)
  have na : ∀ {b : Addr}, H b = none → b ≠ a := fun {b} n z => by rw [z, e] at n; cases n
  have U : Un X.fs [] H (upd (upd H dx (exd dx [(f, y)])) a (exo a C (some dx))) hp h' := {
    keep := fun b o q n _ _ => k b o (na n) q
    slot := fun b o q n _ _ => ⟨o.slots, k b o (na n) q⟩
    free := fun b o q n _ => by rw [upd_ne (na n), upd_ne (nd q)]; exact n
    there := fun b o q _ => by
      rcases Classical.em (b = a) with hb | hb
      · exact ⟨_, by rw [hb]; exact hx⟩
      · exact ⟨o, k b o hb q⟩
    tups := fun b xs q => by rw [upd_ne (at_ne e q exo_tup), upd_ne (ne_of_none q fr)]; exact q
    frzs := fun b o v q => by rw [upd_ne (at_ne e q exo_frz), upd_ne (ne_of_none q fr)]; exact q
    tbls := fun b ps q => ⟨#[], by rw [upd_ne (at_ne e q exo_tbl), upd_ne (ne_of_none q fr), q]; simp⟩ }
  refine h dx _ fr dne (I.un (t' := tk') U fun b o q => ?_)
  by_cases hb : b = a
  · subst hb
    rw [upd_same] at q
    cases q
    exact exo_ok hx
  rw [upd_ne hb] at q
  by_cases hd : b = dx
  · subst hd
    rw [upd_same] at q
    cases q
    exact exd_ok hn (relO_put (fs := []) ry fun g => True.intro)
  rw [upd_ne hd] at q
  exact (I.hok b o q).stay (fun c v hc z => k c v (hc.elim (fun hc => by rw [hc]; exact hb) fun hc => at_ne e hc exo_own) z)
    (fun c hc => by rw [upd_ne (at_ne e hc exo_own), upd_ne (ne_of_none hc fr)]; exact hc) (fun c xs hc => by rw [upd_ne (at_ne e hc exo_tup), upd_ne (ne_of_none hc fr)]; exact hc)
/-- a further one -/
theorem putG_old (T : OexG X.K C) (I : Inv X pins σ H s) (e : H a = some (exo a C (some dx))) (ed : H dx = some (exd dx fs)) (hl : fs.length ≤ 900) (hno : PySem.W.findIn X.K (.ref C) f = some none) (ry : RelV y u)
    (h : ∀ s', Inv X pins σ (upd H dx (exd dx ((f, y) :: fs))) s' → Q () s') : wpAny (model X.prog X.w) A (setAttr (.ref a) f u) Q E s := by
  obtain ⟨cd, hcl, hh, pass, ne, ob⟩ := T.data
  obtain ⟨t1, ho⟩ := exo_at I.hok e
  obtain ⟨mA, hns, rel⟩ := exd_at I.hok ed
  have hw := within_of rel
  obtain ⟨hp, g, d, t, os⟩ := s
  obtain ⟨oD, _, _, hoD, _, _⟩ := hns.count hw
  refine PySem.W.set_plain I.kIn (ox := { cls := .ref C, dict := some dx, data := .fields #[.ref t1, .none, .none, .none, .bool false, .none] }) (od := some oD) ⟨ho, rfl, rfl, hoD⟩ T.sa ?_
  refine store_oldG I.kIn ho hns hw (by rw [List.length_map]; omega) hcl pass ne ob hh hno (fun h' tk' k hn => ?_)
  exact h _ (I.write (t' := tk') (x := dx) (e := dx) (o := exd dx ((f, y) :: fs)) (by rw [ed]; exact True.intro) (.inl rfl) k (by obtain ⟨o, _, _, e', _⟩ := hn; exact ⟨o, e'⟩) (exd_ok hn (relO_put ry rel)))
end
def tOstG (K : PySem.W.Frag) (f : Str) (to te : TE) : TS := fun D σ H => te σ H fun y H1 => to σ H1 fun x H2 => ∃ a C : Addr, x = .ref a ∧ OexG K C ∧ PySem.W.findIn K (.ref C) f = some none ∧
  ((H2 a = some (exo a C none) ∧ ∀ dx, H2 dx = none → dx ≠ a → D.nx σ (upd (upd H2 dx (exd dx [(f, y)])) a (exo a C (some dx)))) ∨
    ∃ (dx : Addr) (fs : List (Str × V)), H2 a = some (exo a C (some dx)) ∧ H2 dx = some (exd dx fs) ∧ fs.length ≤ 900 ∧ D.nx σ (upd H2 dx (exd dx ((f, y) :: fs))))
section
variable {X : Cx} {o e : Expr} {es : List Expr} {to te : TE} {ta : TA} {f : Str} {p' pos : Pos}
theorem ps_ostG (ho : PE X o to) (he : PE X e te) (hs : swapsWith e (some (.Attribute o f p')) pos.line X.env = pure false := by rfl) : PS X (.Assign [.Attribute o f p'] e pos) (tOstG X.K f to te) := by
  refine ⟨fun pins s σ H D I h => ?_⟩
  refine plainObj_wpAny_Assign_Attribute (thn (he.run pins s σ H _ I h) fun v s1 ⟨y, H1, I1, r1, q1⟩ => thn (ho.run pins s1 σ H1 _ I1 q1) fun u s2 ⟨x, H2, I2, r2, a, C, ex, T, hno, q⟩ => ?_) hs
  subst ex
  obtain rfl : u = Value.ref a := r2
  rcases q with ⟨ea, q⟩ | ⟨dx, fs, ea, ed, hl, q⟩
  · exact putG_new T I2 ea hno r1 fun dx s' n ne J => ⟨σ, _, J, q dx n ne⟩
  · exact putG_old T I2 ea ed hl hno r1 fun s' J => ⟨σ, _, J, q⟩
/-- C(e, ..), C's own __init__ keeping sp -/
theorem pmkG {CX : CXT} {x : Str} {p pos : Pos} {C fI : Addr} {k : Nat} {fd : FuncData} {ps : List Str} {sp : Sp} {ds : List Value} {dvs : List V} (T : OexG X.K C) (iC : PySem.W.findIn X.K (.ref C) "__init__" = some (some (.ref fI))) (tI : PySem.W.typeIn X.K (.ref fI) = some (.type "function"))
    (F1 : FnOk X.prog X.w X.K X.mg X.base CX k fI fd ps sp) (hr : Room (k + 1) X.A) (hb : Binds X.K fd ps ds) (hd : Vals dvs ds) (hx : Passes CX X (fun _ _ _ => False)) (hg : Gl X x) (hm : X.mg x = some (.ref C)) (ha : PA X (e :: es) ta)
    (hdb : (x == ("__debug__" : Str)) = false := by decide) (he : starEach (e :: es) X.env = (false, eval e X.env) :: starEach es X.env := by rfl) (hpl : (backTo pos (starEach es X.env)).any (·.1) = false := by rfl) :
    PMk X (.Call (.Name x p) (e :: es) [] pos) (tMkO C sp dvs ta) := by
  intro pins s σ H Q I h
  obtain ⟨nm, q, N, bs, bm, sn, sub, ab, col, dd, k0, k1, k2, k3, k5, B, newId, initId, bmB, hC, F, beh⟩ := T.cls
  refine wpAny_Call_Name_kw (ld_glob I hg hm ?_ hdb)
  refine PySem.W.callWith_K (h₀ := X.base) I.ok.mod.kin T.kC (thn (ha.run pos pins s σ H _ I h) fun us s1 ⟨vs, H1, I1, r1, hz, q1⟩ => ⟨I1.kIn, ?_⟩) he hpl
  show wpAny _ _ (call (.ref C) us) _ _ _
  obtain ⟨hp, g, dr, tk, os⟩ := s1
  have up1 : hp.objs.size ≤ hp.objs.size + 1 := Nat.le_succ _
  have hq := q1 (hp.objs.size + 1) (I1.hok.fresh up1)
  have kk : ∀ b o, hp.get? b = some o → ((hp.push (PySem.W.kdv_tup us)).push (PySem.HandSPX.excO C hp.objs.size)).get? b = some o := fun b o e => Heap.get?_push_of_some _ (Heap.get?_push_of_some _ e)
  have got : ((hp.push (PySem.W.kdv_tup us)).push (PySem.HandSPX.excO C hp.objs.size)).get? (hp.objs.size + 1) = some (PySem.HandSPX.excO C hp.objs.size) := by heap_get
  have I2 : Inv X pins σ (upd H1 (hp.objs.size + 1) (exo (hp.objs.size + 1) C none)) ⟨(hp.push (PySem.W.kdv_tup us)).push (PySem.HandSPX.excO C hp.objs.size), g, dr, tk, os⟩ :=
    I1.laid (t' := tk) (a := hp.objs.size + 1) (o := exo (hp.objs.size + 1) C none) (h' := (hp.push (PySem.W.kdv_tup us)).push (PySem.HandSPX.excO C hp.objs.size)) kk up1 (exo_ok got)
  have r2 : Vals (V.ref (hp.objs.size + 1) :: (vs ++ dvs)) (Value.ref (hp.objs.size + 1) :: (us ++ ds)) := .cons rfl (r1.append hd)
  have hl : (Value.ref (hp.objs.size + 1) :: us ++ ds).length = ps.length := by
    have e := r2.length
    rw [F1.len _ _ _ _ hq] at e
    exact e.symm
  have hus : us.length ≤ sizeLine := by
    rw [← Paired.length r1, sizeLine_eq]
    omega
  refine wpAny_call (callG F beh (I1.kIn _ _ hC) (PySem.W.looks_findIn I1.kIn iC) (fun self => PySem.W.bind_fn I1.kIn self tI) hus
    (codeAny_mono (F1.run _ X.stack _ _ ⟨Value.ref (hp.objs.size + 1) :: us, []⟩ (Value.ref (hp.objs.size + 1) :: (us ++ ds)) _ _ (fun _ _ _ => False) (hr.make C us []) (I2.env0.make C us []) (hb _ (Value.ref (hp.objs.size + 1) :: us) I2.kIn hl) r2 hq) fun r s' hq' => ?_))
  cases r with
  | error er => exact hx pins σ _ _ er s' I2 hq'
  | ok fl =>
    cases fl with
    | ret u =>
      obtain ⟨v, H2, os2, bare2, un2, hok2, rv, ev, d, fs, ea, ed, hd1, q2⟩ := hq'
      subst ev
      obtain ⟨h2, g2, d2, t2, os'⟩ := s'
      exact ⟨rv, mk_end (raises_own T.exC T.tyC) I1 up1 kk un2 hok2 os2 bare2 ea ed hd1 q2⟩
    | next => exact False.elim hq'
    | brk => exact False.elim hq'
    | cont => exact False.elim hq'
end
theorem beh_ValueError : BehG [.type "ValueError", .type "Exception", .type "BaseException", .type "object"] "ValueError" := ⟨by decide +kernel, by decide +kernel, by decide +kernel, by decide +kernel, rfl, fun self => by kernel_rfl⟩
theorem beh_OverflowError : BehG [.type "OverflowError", .type "ArithmeticError", .type "Exception", .type "BaseException", .type "object"] "OverflowError" := ⟨by decide +kernel, by decide +kernel, by decide +kernel, by decide +kernel, rfl, fun self => by kernel_rfl⟩
theorem beh_RuntimeError : BehG [.type "RuntimeError", .type "Exception", .type "BaseException", .type "object"] "RuntimeError" := ⟨by decide +kernel, by decide +kernel, by decide +kernel, by decide +kernel, rfl, fun self => by kernel_rfl⟩
theorem beh_LookupError : BehG [.type "LookupError", .type "Exception", .type "BaseException", .type "object"] "LookupError" := ⟨by decide +kernel, by decide +kernel, by decide +kernel, by decide +kernel, rfl, fun self => by kernel_rfl⟩
theorem beh_KeyError : BehG [.type "KeyError", .type "LookupError", .type "Exception", .type "BaseException", .type "object"] "LookupError" := ⟨by decide +kernel, by decide +kernel, by decide +kernel, by decide +kernel, rfl, fun self => by kernel_rfl⟩
/-- the class of errors by the name x, its field f, over any built-in class -/
structure ErrKG (P : Program) (w : World) (K : PySem.W.Frag) (mg : Str → Option Value) (base : Heap) (x f : Str) : Prop where
  ex : ∃ (C fI : Addr) (fd : FuncData), PySem.W.nsIn K mainGlobals x = some (some (.ref C)) ∧ mg x = some (.ref C) ∧ OexG K C ∧ PySem.W.findIn K (.ref C) "__init__" = some (some (.ref fI)) ∧ PySem.W.typeIn K (.ref fI) = some (.type "function") ∧
    FnOk P w K mg base CX0 1 fI fd ["self", f] (spErr C f) ∧ Binds K fd ["self", f] []
structure ErrK2G (P : Program) (w : World) (K : PySem.W.Frag) (mg : Str → Option Value) (base : Heap) (x f g : Str) : Prop where
  ex : ∃ (C fI : Addr) (fd : FuncData), PySem.W.nsIn K mainGlobals x = some (some (.ref C)) ∧ mg x = some (.ref C) ∧ OexG K C ∧ PySem.W.findIn K (.ref C) "__init__" = some (some (.ref fI)) ∧ PySem.W.typeIn K (.ref fI) = some (.type "function") ∧
    FnOk P w K mg base CX0 1 fI fd ["self", f, g] (spErr2 C f g) ∧ Binds K fd ["self", f, g] []
section
variable {X : Cx} {x f g : Str} {e e2 : Expr} {te t2 : TE} {p pos : Pos}
/-- X(e) as a value, tracked at once -/
theorem pe_errG (R : ErrKG X.prog X.w X.K X.mg X.base x f) (hr : Room 2 X.A) (ha : PE X e te) (hex : X.ex = [] := by rfl) (hg : Gl X x := by rfl) (hdb : (x == ("__debug__" : Str)) = false := by decide)
    (he : starEach (e :: []) X.env = (false, eval e X.env) :: starEach [] X.env := by rfl) (hpl : (backTo pos (starEach [] X.env)).any (·.1) = false := by rfl) :
    PE X (.Call (.Name x p) [e] [] pos) (fun σ H Q => te σ H fun v H1 => ∀ C d a, PySem.W.nsIn X.K mainGlobals x = some (some (.ref C)) → H1 d = none → H1 a = none → a ≠ d → Q (.ref a) (upd (upd H1 d (.xd [(f, v)])) a (kept a (.ref C) (some d)))) := by
  obtain ⟨C, fI, fd, aC, gC, T, iC, tI, F, b⟩ := R.ex
  refine ⟨fun pins s σ H Q I h => (pe_mk (pmkG (dvs := []) (ds := []) T iC tI F hr b .nil pass0 hg gC (pa_cons (PE.more ha) pa_nil (hs := he)) hdb he hpl) hex).run pins s σ H Q I ⟨_, h, fun v H1 q => ?_⟩⟩
  refine ⟨(show 1 ≤ 1000 by decide), fun a na => ⟨a, v, rfl, upd_same, fun dx hd ne => ⟨rfl, dx, [(f, v)], upd_same, ?_, ?_, fun a2 na2 => ?_⟩⟩⟩
  · rw [upd_ne ne, upd_same]
  · rw [upd_ne ne] at hd; exact hd
  · rw [upd_ne ne] at hd
    have eq : upd (del (upd (upd (upd H1 a (exo a C none)) dx (exd dx [(f, v)])) a (exo a C (some dx))) a) dx (.xd [(f, v)]) = upd H1 dx (.xd [(f, v)]) := by
      funext c
      by_cases h1 : c = dx
      · rw [h1, upd_same, upd_same]
      · rw [upd_ne h1, upd_ne h1]
        by_cases h2 : c = a
        · rw [h2, del_same, na]
        · rw [del_ne h2, upd_ne h2, upd_ne h1, upd_ne h2]
    rw [eq] at na2 ⊢
    have n2 : a2 ≠ dx := fun z => by rw [z, upd_same] at na2; cases na2
    rw [upd_ne n2] at na2
    exact q C dx a2 aC hd na2 n2
theorem pe_err2G (R : ErrK2G X.prog X.w X.K X.mg X.base x f g) (hr : Room 2 X.A) (ha : PE X e te) (hb : PE X e2 t2) (hex : X.ex = [] := by rfl) (hg : Gl X x := by rfl) (hdb : (x == ("__debug__" : Str)) = false := by decide)
    (h1 : starEach [e, e2] X.env = (false, eval e X.env) :: starEach [e2] X.env := by rfl) (h2 : starEach [e2] X.env = (false, eval e2 X.env) :: starEach [] X.env := by rfl) (h3 : (backTo pos (starEach [e2] X.env)).any (·.1) = false := by rfl) :
    PE X (.Call (.Name x p) [e, e2] [] pos) (fun σ H Q => te σ H fun v H1 => t2 σ H1 fun u H2 => ∀ C d a, PySem.W.nsIn X.K mainGlobals x = some (some (.ref C)) → H2 d = none → H2 a = none → a ≠ d → Q (.ref a) (upd (upd H2 d (.xd [(g, u), (f, v)])) a (kept a (.ref C) (some d)))) := by
  obtain ⟨C, fI, fd, aC, gC, T, iC, tI, F, b⟩ := R.ex
  refine ⟨fun pins s σ H Q I h => (pe_mk (pmkG (dvs := []) (ds := []) T iC tI F hr b .nil pass0 hg gC (pa_cons (PE.more ha) (pa_cons (PE.more hb) pa_nil (hs := h2)) (hs := h1)) hdb h1 h3) hex).run pins s σ H Q I ⟨_, h, fun v H1 q1 => ⟨_, q1, fun u H2 q2 => ?_⟩⟩⟩
  refine ⟨(show 2 ≤ 1000 by decide), fun a na => ⟨a, v, u, rfl, upd_same, fun dx hd ne => ⟨rfl, dx, [(g, u), (f, v)], ?_, upd_same, ?_, fun a2 na2 => ?_⟩⟩⟩
  · rw [upd_ne (Ne.symm ne), upd_same]
  · rw [upd_ne ne] at hd; exact hd
  · rw [upd_ne ne] at hd
    have eq : upd (del (upd (upd (upd (upd H2 a (exo a C none)) dx (exd dx [(f, v)])) a (exo a C (some dx))) dx (exd dx [(g, u), (f, v)])) a) dx (.xd [(g, u), (f, v)]) = upd H2 dx (.xd [(g, u), (f, v)]) := by
      funext c
      by_cases c1 : c = dx
      · rw [c1, upd_same, upd_same]
      · rw [upd_ne c1, upd_ne c1]
        by_cases c2 : c = a
        · rw [c2, del_same, na]
        · rw [del_ne c2, upd_ne c1, upd_ne c2, upd_ne c1, upd_ne c2]
    rw [eq] at na2 ⊢
    have n2 : a2 ≠ dx := fun z => by rw [z, upd_same] at na2; cases na2
    rw [upd_ne n2] at na2
    exact q2 C dx a2 aC hd na2 n2
end
inductive Kind where
  | box | worth | offset | to | by_ | rights | doing | asked | test
  deriving DecidableEq
def Kind.nm : Kind → Str
  | .box => Str.ofString "box"
  | .worth => Str.ofString "worth"
  | .offset => Str.ofString "offset"
  | .to => Str.ofString "to"
  | .by_ => Str.ofString "by"
  | .rights => Str.ofString "rights"
  | .doing => Str.ofString "doing"
  | .asked => Str.ofString "asked"
  | .test => Str.ofString "test"
theorem lcons {P : V → Prop} {v : V} {vs : List V} (h : P v) (k : ∀ w ∈ vs, P w) : ∀ w ∈ v :: vs, P w := fun w hw => by
  rcases List.mem_cons.mp hw with e | e
  · rw [e]; exact h
  · exact k w e
theorem lnil {P : V → Prop} : ∀ w ∈ ([] : List V), P w := fun _ h => nomatch h
def fA : List (Key × V) := [(Sum.inr (Str.ofString "set"), V.str (Str.ofString "bn")), (Sum.inr (Str.ofString "move"), V.str (Str.ofString "bb")), (Sum.inr (Str.ofString "do"), V.str (Str.ofString "dby")), (Sum.inr (Str.ofString "walk"), V.str (Str.ofString "by")), (Sum.inr (Str.ofString "narrow"), V.str (Str.ofString "by")), (Sum.inr (Str.ofString "exact"), V.str (Str.ofString "by")), (Sum.inr (Str.ofString "less"), V.str (Str.ofString "br"))]
def fB : List (Key × V) := [(Sum.inr (Str.ofString "seal"), V.str (Str.ofString "bb")), (Sum.inr (Str.ofString "open"), V.str (Str.ofString "bb")), (Sum.inr (Str.ofString "entry"), V.str (Str.ofString "b")), (Sum.inr (Str.ofString "ask"), V.str (Str.ofString "bkb")), (Sum.inr (Str.ofString "here"), V.str (Str.ofString "b")), (Sum.inr (Str.ofString "load"), V.str (Str.ofString "bbo")), (Sum.inr (Str.ofString "store"), V.str (Str.ofString "bob"))]
theorem putK_fresh {kvs : List (Key × V)} {k : Key} {v : V} (h : k ∉ kvs.map (·.1)) : putK kvs k v = kvs ++ [(k, v)] := by
  unfold putK
  rw [if_neg]
  rw [List.any_eq_true]
  rintro ⟨x, hx, e⟩
  exact h (List.mem_map.mpr ⟨x, hx, of_decide_eq_true e⟩)
theorem mergeK_fresh : ∀ (more kvs : List (Key × V)), ((kvs ++ more).map (·.1)).Nodup → mergeK kvs more = kvs ++ more
  | [], kvs, _ => by rw [List.append_nil]; rfl
  | p :: r, kvs, h => by
    have hp : p.1 ∉ kvs.map (·.1) := by
      rw [List.map_append, List.map_cons] at h
      have := (List.nodup_append.mp h).2.2
      intro hm
      exact this _ hm _ (List.mem_cons_self ..) rfl
    show mergeK (putK kvs p.1 p.2) r = _
    rw [putK_fresh hp, mergeK_fresh r _ (by rw [List.append_assoc]; exact h), List.append_assoc]
    rfl
def keysOf (l : List (Key × V)) : List Key := l.map (·.1)
theorem mA : mergeK [] fA = fA := mergeK_fresh fA [] (by show (keysOf fA).Nodup; decide +kernel)
theorem mB : mergeK [] fB = fB := mergeK_fresh fB [] (by show (keysOf fB).Nodup; decide +kernel)
theorem But.put {p D : Addr} {G H' : Hp} {o : HO} (s : But p G H') (n : G D = none) : But p G (L2.upd H' D o) := fun b x nb h => by
  rw [upd_ne (ne_of_none h n)]; exact s b x nb h
/-- what the law's own look wants of the rows of a list -/
def Tame (d : PyData) : Prop := ∀ ds, d = .list ds → ∀ r ∈ ds, ∀ xs, r = .tuple xs → ∃ n, NiceAll n 60 xs ∧ ∀ s, .str s ∈ xs → s.cps.size ≤ 100
def hid (a L : Addr) (H : Hp) : Hp := hide L (hide a H)
theorem hid_but {a L : Addr} {H H' : Hp} (b : But a H H') : Same (hid a L H) (hid a L H') := fun c o h => by
  unfold hid hide at h ⊢
  by_cases e : c = L
  · rw [if_pos e] at h; cases h
  · rw [if_neg e] at h ⊢
    exact hide_but b c o h
/-- values that stand apart from the pool -/
def Wl (C : PyData → Prop) (a L : Addr) (G : Hp) (vs : List V) : Prop := ∀ v ∈ vs, ∃ d, Dx (hid a L G) v d ∧ C d
theorem Wl.go {C : PyData → Prop} {a L : Addr} {G G' : Hp} {vs : List V} (w : Wl C a L G vs) (s : But a G G') : Wl C a L G' vs := fun v hv => by
  obtain ⟨d, h, c⟩ := w v hv
  exact ⟨d, h.same (hid_but s), c⟩
theorem Wl.cons {C : PyData → Prop} {a L : Addr} {G : Hp} {v : V} {vs : List V} (h : ∃ d, Dx (hid a L G) v d ∧ C d) (w : Wl C a L G vs) : Wl C a L G (v :: vs) := fun u hu => by
  rcases List.mem_cons.mp hu with e | e
  · rw [e]; exact h
  · exact w u e
theorem Wl.nil {C : PyData → Prop} {a L : Addr} {G : Hp} : Wl C a L G [] := fun _ h => nomatch h
local macro_rules | `(tactic| walk_at "nl") => `(tactic| first | exact NiceAll.nil | (refine NiceAll.cons (m := 40) ?nlh ?nlt |>.mono ?nla ?nlb; (case nlh => first | exact nice_lit (n := 6) (by decide +kernel) | exact nice_int (m := 18) (by decide) (by decide) | exact nice_bool _); (case nlt => exact (by walk_at "nl")); (case nla => decide); (case nlb => exact Nat.le_refl _)))
theorem NiceAll.take {n k : Nat} : ∀ {ds : List PyData} (i : Nat), NiceAll n k ds → NiceAll n k (ds.take i)
  | ds, 0, _ => by
    rw [List.take_zero]
    exact NiceAll.nil
  | [], i + 1, f => f
  | d :: r, i + 1, f => by
    have h1 := f.ft.sh; have h2 := f.ft.lv; have h3 := f.ft.wt; have h4 := f.ft.dp; have h5 := f.ly
    simp only [PyData.showableAll, PyData.leavesShortAll, PyData.weightAll, PyData.depthAll, PyData.canLayAll0, Bool.and_eq_true] at h1 h2 h3 h4 h5
    have hd : Nice d.weight k d := ⟨⟨h1.1, h2.1, Nat.le_refl _, by omega⟩, h5.1⟩
    have tl : NiceAll (PyData.weightAll r) k r := ⟨⟨h1.2, h2.2, Nat.le_refl _, by omega⟩, h5.2⟩
    have := NiceAll.cons hd (NiceAll.take i tl)
    rw [List.take_succ_cons]
    exact this.mono (by omega) (Nat.le_refl _)
theorem sameU {H G : Hp} {p : Addr} {o : HO} (s : Same H G) (n : H p = none) : Same H (upd G p o) := fun b x e => by
  rw [upd_ne (ne_of_none e n)]; exact s b x e
/-- what is looked at, and shown -/
def Show (d : PyData) : Prop := Fit 20000 50 d ∧ Tame d
def Ws (G : Hp) (vs : List V) : Prop := ∀ v ∈ vs, ∃ d, Dx G v d ∧ Show d
theorem Ws.go {G G' : Hp} {vs : List V} (w : Ws G vs) (s : Same G G') : Ws G' vs := fun v hv => by
  obtain ⟨d, h, c⟩ := w v hv
  exact ⟨d, h.same s, c⟩
theorem Ws.cons {G : Hp} {v : V} {vs : List V} {d : PyData} (h : Dx G v d) (c : Show d) (w : Ws G vs) : Ws G (v :: vs) := fun u hu => by
  rcases List.mem_cons.mp hu with e | e
  · rw [e]; exact ⟨d, h, c⟩
  · exact w u e
theorem Ws.put {G : Hp} {v : V} {vs : List V} (h : ∃ d, Dx G v d ∧ Show d) (w : Ws G vs) : Ws G (v :: vs) := fun u hu => by
  rcases List.mem_cons.mp hu with e | e
  · rw [e]; exact h
  · exact w u e
theorem Ws.nil {G : Hp} : Ws G [] := fun _ h => nomatch h
theorem lc_gen {J : It} {n : Nat} {G : Hp → Prop} {Y : Nat → Hp → V → Hp → Prop} (w : Walk J n G Y) {g : TG} {tt : TT} {te : TE} {vs : List Nat} {σ : L2.St} {H1 : Hp} {D : Addr} {Qd : Hp → Prop}
    (keep : Nat → Bool) (fv : Nat → V) (hD : H1 D = none) (hn : n < sizeLine) (hG : ∀ H, Same H1 H → G H)
    (hs : ∀ i x H H', i < n → Same H1 H → Y i H x H' → ∀ (k : VK) (m : Hp → Prop), (keep i = true → ∀ H4, Same H H4 → k (fv i) H4) → (keep i = false → ∀ H4, Same H H4 → m H4) →
      g x (wipe σ vs) H' fun σ2 H2 => wipe σ2 vs = wipe σ vs ∧ tt σ2 H2 fun b H3 => if b = true then te σ2 H3 k else m H3)
    (hd : ∀ H, Same H1 H → H D = some (.lst (((List.range n).filter keep).map fv)) → Qd H) :
    ∃ W : Nat → Nat → Hp → Prop, (∃ m, W 0 m (upd H1 D (.lst []))) ∧ ∀ i m H, W i m H →
      (J.stop i H ∧ Qd H) ∨ (J.go i H ∧ ∃ Nx : Hp → Prop, (∀ H', Nx H' → ∃ m', m' < m ∧ W (i + 1) m' H') ∧ ∀ x H', J.yld i H x H' → g x (wipe σ vs) H' fun σ2 H2 => wipe σ2 vs = wipe σ vs ∧ tt σ2 H2 fun b H3 =>
        if b = true then te σ2 H3 fun y H4 => ∃ acc, H4 D = some (.lst acc) ∧ acc.length < sizeLine ∧ Nx (upd H4 D (.lst (acc ++ [y]))) else Nx H3) := by
  have len : ∀ i, (((List.range i).filter keep).map fv).length ≤ i := fun i => by
    rw [List.length_map]
    exact Nat.le_trans (List.length_filter_le _ _) (by rw [List.length_range]; exact Nat.le_refl _)
  have ext : ∀ i, ((List.range (i + 1)).filter keep).map fv = ((List.range i).filter keep).map fv ++ (if keep i = true then [fv i] else []) := fun i => by
    rw [List.range_succ, List.filter_append, List.map_append]
    congr 1
    cases h : keep i <;> simp [h]
  refine lc_it w (fun i H => Same H1 H ∧ H D = some (.lst (((List.range i).filter keep).map fv))) ⟨same_new hD, upd_same⟩ (fun i H _ p => hG H p.1) (fun i x H H' hi p y => ?_) (fun H p => hd H p.1 p.2)
  refine hs i x H H' hi p.1 y _ _ (fun hk H4 s4 => ?_) (fun hk H4 s4 => ⟨p.1.trans s4, ?_⟩)
  · refine ⟨_, s4 _ _ p.2, Nat.lt_of_le_of_lt (len i) (by omega), fun b o e => ?_, ?_⟩
    · rw [upd_ne (ne_of_none e hD)]
      exact s4 _ _ (p.1 b o e)
    · rw [upd_same, ext, if_pos hk]
  · rw [ext, hk, if_neg Bool.false_ne_true, List.append_nil]
    exact s4 _ _ p.2
def namesL : List Str := ["NoFields", "NoBounds", "NoOffset", "NoAddress", "NoWord", "NoHands", "NoRule", "NoNumber", "NoLine", "Sweeping", "NoSweep", "Fault", "NoRows", "NoText", "NoDeeds", "NoName", "TooMany", "NoCompartment"].map Str.ofString
def tyL : List String := ["ValueError", "OverflowError", "KeyError", "LookupError", "RuntimeError", "IndexError"]
def fldsL (u v : V) (w : Nat) : List (Str × V) := if w < 11 then [(Str.ofString "text", .str (Str.ofString "a"))] else if w = 11 then [(Str.ofString "word", u)] else if w < 15 then [(Str.ofString "number", u)] else if w = 15 then [(Str.ofString "name", u)] else if w = 16 then [(Str.ofString "size", u)] else [(Str.ofString "part", v), (Str.ofString "number", u)]
def fldN (w : Nat) : List Str := if w < 11 then [] else if w = 11 then [Str.ofString "word"] else if w < 15 then [Str.ofString "number"] else if w = 15 then [Str.ofString "name"] else if w = 16 then [Str.ofString "size"] else [Str.ofString "number", Str.ofString "part"]
def valsL (u v : V) (w : Nat) : List V := if w < 11 then [] else if w < 17 then [u] else [u, v]
def dueB (w j : Nat) : Bool := if w = 9 then decide (j = 5) else if w = 10 then decide (j = 4) else if w = 15 then decide (j = 3) || decide (j = 4) else if w = 16 then decide (j = 2) else decide (j < 2)
structure KF (K : PySem.W.Frag) (C : Addr) (w : Nat) : Prop where
  ec : ErrC K C
  own : ∀ (j : Nat) (x : Str) (D : Addr), namesL[j]? = some x → PySem.W.nsIn K mainGlobals x = some (some (.ref D)) → PySem.W.kitOne K (.ref C) (.ref D) = some (decide (w = j))
  re : ∀ D : Addr, PySem.W.nsIn K mainGlobals "ReachError" = some (some (.ref D)) → PySem.W.kitOne K (.ref C) (.ref D) = some (dueB w 0)
  ty : ∀ (j : Nat) (t : String), tyL[j]? = some t → PySem.W.kitOne K (.ref C) (.type t) = some (dueB w (j + 1))
  fl : ∀ f ∈ fldN w, PySem.W.findIn K (.ref C) f = some none
/-- at a: an error of the class w, made of u and v -/
def ErAt (K : PySem.W.Frag) (H : Hp) (a : Addr) (w : Nat) (u v : V) : Prop := ∃ C d, H a = some (kept a (.ref C) (some d)) ∧ H d = some (.xd (fldsL u v w)) ∧ KF K C w
theorem ErAt.same {K : PySem.W.Frag} {H G : Hp} {a : Addr} {w : Nat} {u v : V} (e : ErAt K H a w u v) (s : Same H G) : ErAt K G a w u v := by
  obtain ⟨C, d, h1, h2, k⟩ := e
  exact ⟨C, d, s _ _ h1, s _ _ h2, k⟩
def MadeAt (K : PySem.W.Frag) (u v : V) (H0 H : Hp) (xs : List V) : Prop := ∀ (j : Nat) (y : V), xs[j]? = some y → ∃ a, y = .ref a ∧ H0 a = none ∧ ErAt K H a j u v
theorem MadeAt.same {K : PySem.W.Frag} {u v : V} {H0 H G : Hp} {xs : List V} (m : MadeAt K u v H0 H xs) (s : Same H G) : MadeAt K u v H0 G xs := fun j y h => by
  obtain ⟨a, e, n, er⟩ := m j y h
  exact ⟨a, e, n, er.same s⟩
theorem MadeAt.nil {K : PySem.W.Frag} {u v : V} {H0 H : Hp} : MadeAt K u v H0 H [] := fun j y h => by simp at h
theorem MadeAt.add {K : PySem.W.Frag} {u v : V} {H0 H : Hp} {xs : List V} {C d a : Addr} {fs : List (Str × V)} (m : MadeAt K u v H0 H xs) (S : Same H0 H) (hd : H d = none) (ha : H a = none) (ne : a ≠ d) (k : KF K C xs.length) (e : fs = fldsL u v xs.length) :
    MadeAt K u v H0 (upd (upd H d (.xd fs)) a (kept a (.ref C) (some d))) (xs ++ [.ref a]) ∧ Same H0 (upd (upd H d (.xd fs)) a (kept a (.ref C) (some d))) := by
  have ha2 : (upd H d (.xd fs)) a = none := by rw [upd_ne ne]; exact ha
  have s2 : Same H (upd (upd H d (.xd fs)) a (kept a (.ref C) (some d))) := (same_new hd).trans (same_new ha2)
  refine ⟨fun j y h => ?_, S.trans s2⟩
  rcases Nat.lt_or_ge j xs.length with l | l
  · rw [List.getElem?_append_left l] at h
    obtain ⟨b, e1, n, er⟩ := m j y h
    exact ⟨b, e1, n, er.same s2⟩
  · have ej : j = xs.length := by
      have := (List.getElem?_eq_some_iff.mp h).1
      rw [List.length_append, List.length_singleton] at this
      omega
    subst ej
    rw [List.getElem?_append_right (Nat.le_refl _), Nat.sub_self] at h
    cases h
    refine ⟨a, rfl, ?_, C, d, upd_same, ?_, k⟩
    · cases q : H0 a with
      | none => rfl
      | some o => rw [S _ _ q] at ha; cases ha
    · rw [upd_ne (Ne.symm ne), upd_same, e]
theorem MadeAt.put {K : PySem.W.Frag} {u v : V} {H0 H : Hp} {xs : List V} {C d a : Addr} {fs : List (Str × V)} {n : Nat} (m : MadeAt K u v H0 H xs) (l : xs.length = n) (S : Same H0 H) (hd : H d = none) (ha : H a = none) (ne : a ≠ d) (k : KF K C n) (e : fs = fldsL u v n) :
    MadeAt K u v H0 (upd (upd H d (.xd fs)) a (kept a (.ref C) (some d))) (xs ++ [.ref a]) ∧ Same H0 (upd (upd H d (.xd fs)) a (kept a (.ref C) (some d))) ∧ (xs ++ [V.ref a]).length = n + 1 := by
  subst l
  obtain ⟨a1, a2⟩ := m.add S hd ha ne k e
  exact ⟨a1, a2, by rw [List.length_append]; rfl⟩
theorem free0 {H G : Hp} {p : Addr} (s : Same H G) (n : G p = none) : H p = none := by
  cases e : H p with
  | none => rfl
  | some o => rw [s _ _ e] at n; cases n
theorem cut_tok {xs : List V} {k : Nat} : cutV xs none (some (k : Int)) = xs.take k := by
  unfold cutV
  rw [HT.sIx_none, HT.sIx_nat, List.drop_zero, Nat.sub_zero]
  rcases Nat.le_total k xs.length with h | h
  · rw [Nat.min_eq_left h]
  · rw [Nat.min_eq_right h, List.take_of_length_le (Nat.le_refl _), List.take_of_length_le h]
theorem dx_bools {H : Hp} {f : Nat → Bool} : ∀ l : List Nat, DxAll H (l.map fun t => V.bl (f t)) (l.map fun t => PyData.bool (f t))
  | [] => .nil
  | _ :: l => .cons (.bl _) (dx_bools l)
theorem nice_bools {f : Nat → Bool} (l : List Nat) : Nice (1 * (l.map fun t => PyData.bool (f t)).length) 1 (.list (l.map fun t => PyData.bool (f t))) := by
  have b : ∀ b : Bool, Nice 0 0 (.bool b) := fun b => by cases b <;> exact ⟨⟨by decide +kernel, by decide +kernel, by decide +kernel, by decide +kernel⟩, by decide +kernel⟩
  exact (NiceAll.of (n := 0) (k := 0) fun d m => by
    obtain ⟨t, _, rfl⟩ := List.mem_map.mp m
    exact b _).list
theorem shp_bools {f : Nat → Bool} (l : List Nat) : SeqAt.shaped (.list (l.map fun t => PyData.bool (f t))) = true := (nice_bools l).shaped (by decide)
theorem only_one : ∀ j < 18, (List.range 18).filter (fun t => decide (j = t)) = [j] := by decide
def datL (u v : PyData) (w : Nat) : List PyData := if w < 11 then [] else if w < 17 then [u] else [u, v]
theorem dx_vals {H : Hp} {u v : V} {d e : PyData} {w : Nat} (hu : Dx H u d) (hv : Dx H v e) : DxAll H (valsL u v w) (datL d e w) := by
  unfold valsL datL
  split
  · exact .nil
  split
  · exact .cons hu .nil
  · exact .cons hu (.cons hv .nil)
theorem fit_vals {d e : PyData} {w : Nat} (hd : Fit 200 2 d) (he : Fit 200 2 e) : Fit 1000 5 (.list (datL d e w)) := by
  unfold datL
  split
  · exact (FitAll.nil (n := 0) (k := 0)).list.mono (by decide) (by decide)
  split
  · exact (FitAll.cons hd (FitAll.nil (n := 0) (k := 2))).list.mono (by decide) (by decide)
  · exact (FitAll.cons hd (FitAll.cons he (FitAll.nil (n := 0) (k := 2)))).list.mono (by decide) (by decide)
theorem vals_take {u v u2 v2 : V} {w : Nat} : [u, v].take (valsL u2 v2 w).length = valsL u v w := by
  unfold valsL
  split
  · rfl
  split
  · rfl
  · rfl
def topS (i : Nat) : Stmt := PySem.Challenge.pw_sealedreach_k05_refusals_apart.main.body.getD i (.Pass ⟨0, 0, 0, 0⟩)
abbrev s__law_take : Stmt := topS 22
abbrev s__law_pool : Stmt := topS 21
abbrev s__law_kinds : Stmt := topS 23
abbrev s__law_bases : Stmt := topS 24
abbrev s__law_made : Stmt := topS 25
abbrev s__law_values : Stmt := topS 26
abbrev s__law_due_bases : Stmt := topS 27
abbrev s_law : Stmt := topS 28
theorem sc__law_take : FnScope ["_law_pool_here", "_law_many", "_law_found"] ["_law_pool_here", "_law_many"] (defScope s__law_take) := ⟨rfl, rfl, rfl, by decide +kernel, rfl, by decide +kernel, by decide +kernel⟩
theorem sc__law_pool : FnScope ["_law_script", "_law_k", "_law_cell", "_law_great", "_law_mixed"] ["_law_script", "_law_k"] (defScope s__law_pool) := ⟨rfl, rfl, rfl, by decide +kernel, rfl, by decide +kernel, by decide +kernel⟩
theorem sc__law_kinds : FnScope ["_law_e", "_law_found"] ["_law_e"] (defScope s__law_kinds) := ⟨rfl, rfl, rfl, by decide +kernel, rfl, by decide +kernel, by decide +kernel⟩
theorem sc__law_bases : FnScope ["_law_e", "_law_found"] ["_law_e"] (defScope s__law_bases) := ⟨rfl, rfl, rfl, by decide +kernel, rfl, by decide +kernel, by decide +kernel⟩
theorem sc__law_made : FnScope ["_law_which", "_law_one", "_law_other", "_law_some"] ["_law_which", "_law_one", "_law_other"] (defScope s__law_made) := ⟨rfl, rfl, rfl, by decide +kernel, rfl, by decide +kernel, by decide +kernel⟩
theorem sc__law_values : FnScope ["_law_which", "_law_e"] ["_law_which", "_law_e"] (defScope s__law_values) := ⟨rfl, rfl, rfl, by decide +kernel, rfl, by decide +kernel, by decide +kernel⟩
theorem sc__law_due_bases : FnScope ["_law_which"] ["_law_which"] (defScope s__law_due_bases) := ⟨rfl, rfl, rfl, by decide +kernel, rfl, by decide +kernel, by decide +kernel⟩
theorem sc_law : FnScope ["_law_script", "_law_k", "_law_pool_here", "_law_some", "_law_one", "_law_other", "_law_which", "_law_made_here", "_law_second", "_law_at", "_law_own", "_law_kinds_here", "_law_found"] ["_law_script"] (defScope s_law) := ⟨rfl, rfl, rfl, by decide +kernel, rfl, by decide +kernel, by decide +kernel⟩
abbrev si_Fault : Stmt := inClass (topS 11) 0
theorem sci_Fault : FnScope ["self", "word"] ["self", "word"] (defScope si_Fault) := ⟨rfl, rfl, rfl, by decide +kernel, rfl, by decide +kernel, by decide +kernel⟩
abbrev si_NoAddress : Stmt := inClass (topS 5) 0
theorem sci_NoAddress : FnScope ["self", "text"] ["self", "text"] (defScope si_NoAddress) := ⟨rfl, rfl, rfl, by decide +kernel, rfl, by decide +kernel, by decide +kernel⟩
abbrev si_NoBounds : Stmt := inClass (topS 3) 0
theorem sci_NoBounds : FnScope ["self", "text"] ["self", "text"] (defScope si_NoBounds) := ⟨rfl, rfl, rfl, by decide +kernel, rfl, by decide +kernel, by decide +kernel⟩
abbrev si_NoCompartment : Stmt := inClass (topS 15) 0
theorem sci_NoCompartment : FnScope ["self", "number", "part"] ["self", "number", "part"] (defScope si_NoCompartment) := ⟨rfl, rfl, rfl, by decide +kernel, rfl, by decide +kernel, by decide +kernel⟩
abbrev si_NoDeeds : Stmt := inClass (topS 14) 0
theorem sci_NoDeeds : FnScope ["self", "number"] ["self", "number"] (defScope si_NoDeeds) := ⟨rfl, rfl, rfl, by decide +kernel, rfl, by decide +kernel, by decide +kernel⟩
abbrev si_NoFields : Stmt := inClass (topS 2) 0
theorem sci_NoFields : FnScope ["self", "text"] ["self", "text"] (defScope si_NoFields) := ⟨rfl, rfl, rfl, by decide +kernel, rfl, by decide +kernel, by decide +kernel⟩
abbrev si_NoHands : Stmt := inClass (topS 7) 0
theorem sci_NoHands : FnScope ["self", "text"] ["self", "text"] (defScope si_NoHands) := ⟨rfl, rfl, rfl, by decide +kernel, rfl, by decide +kernel, by decide +kernel⟩
abbrev si_NoLine : Stmt := inClass (topS 10) 0
theorem sci_NoLine : FnScope ["self", "text"] ["self", "text"] (defScope si_NoLine) := ⟨rfl, rfl, rfl, by decide +kernel, rfl, by decide +kernel, by decide +kernel⟩
abbrev si_NoName : Stmt := inClass (topS 17) 0
theorem sci_NoName : FnScope ["self", "name"] ["self", "name"] (defScope si_NoName) := ⟨rfl, rfl, rfl, by decide +kernel, rfl, by decide +kernel, by decide +kernel⟩
abbrev si_NoNumber : Stmt := inClass (topS 9) 0
theorem sci_NoNumber : FnScope ["self", "text"] ["self", "text"] (defScope si_NoNumber) := ⟨rfl, rfl, rfl, by decide +kernel, rfl, by decide +kernel, by decide +kernel⟩
abbrev si_NoOffset : Stmt := inClass (topS 4) 0
theorem sci_NoOffset : FnScope ["self", "text"] ["self", "text"] (defScope si_NoOffset) := ⟨rfl, rfl, rfl, by decide +kernel, rfl, by decide +kernel, by decide +kernel⟩
abbrev si_NoRows : Stmt := inClass (topS 12) 0
theorem sci_NoRows : FnScope ["self", "number"] ["self", "number"] (defScope si_NoRows) := ⟨rfl, rfl, rfl, by decide +kernel, rfl, by decide +kernel, by decide +kernel⟩
abbrev si_NoRule : Stmt := inClass (topS 8) 0
theorem sci_NoRule : FnScope ["self", "text"] ["self", "text"] (defScope si_NoRule) := ⟨rfl, rfl, rfl, by decide +kernel, rfl, by decide +kernel, by decide +kernel⟩
abbrev si_NoSweep : Stmt := inClass (topS 19) 0
theorem sci_NoSweep : FnScope ["self", "text"] ["self", "text"] (defScope si_NoSweep) := ⟨rfl, rfl, rfl, by decide +kernel, rfl, by decide +kernel, by decide +kernel⟩
abbrev si_NoText : Stmt := inClass (topS 13) 0
theorem sci_NoText : FnScope ["self", "number"] ["self", "number"] (defScope si_NoText) := ⟨rfl, rfl, rfl, by decide +kernel, rfl, by decide +kernel, by decide +kernel⟩
abbrev si_NoWord : Stmt := inClass (topS 6) 0
theorem sci_NoWord : FnScope ["self", "text"] ["self", "text"] (defScope si_NoWord) := ⟨rfl, rfl, rfl, by decide +kernel, rfl, by decide +kernel, by decide +kernel⟩
abbrev si_Sweeping : Stmt := inClass (topS 18) 0
theorem sci_Sweeping : FnScope ["self", "text"] ["self", "text"] (defScope si_Sweeping) := ⟨rfl, rfl, rfl, by decide +kernel, rfl, by decide +kernel, by decide +kernel⟩
abbrev si_TooMany : Stmt := inClass (topS 16) 0
theorem sci_TooMany : FnScope ["self", "size"] ["self", "size"] (defScope si_TooMany) := ⟨rfl, rfl, rfl, by decide +kernel, rfl, by decide +kernel, by decide +kernel⟩
structure Txt (K : PySem.W.Frag) (w : World) (mg : Str → Option Value) : Prop where
  z_IndexError : mg "IndexError" = none
  z_KeyError : mg "KeyError" = none
  z_LookupError : mg "LookupError" = none
  z_OverflowError : mg "OverflowError" = none
  z_RuntimeError : mg "RuntimeError" = none
  z_ValueError : mg "ValueError" = none
  z_abs : mg "abs" = none
  z_enumerate : mg "enumerate" = none
  z_int : mg "int" = none
  z_isinstance : mg "isinstance" = none
  z_len : mg "len" = none
  z_max : mg "max" = none
  z_min : mg "min" = none
  z_range : mg "range" = none
  z_repr : mg "repr" = none
  z_sum : mg "sum" = none
  k_Fault : ∃ C, mg "Fault" = some (.ref C) ∧ PySem.W.nsIn K mainGlobals "Fault" = some (some (.ref C))
  k_NoAddress : ∃ C, mg "NoAddress" = some (.ref C) ∧ PySem.W.nsIn K mainGlobals "NoAddress" = some (some (.ref C))
  k_NoBounds : ∃ C, mg "NoBounds" = some (.ref C) ∧ PySem.W.nsIn K mainGlobals "NoBounds" = some (some (.ref C))
  k_NoCompartment : ∃ C, mg "NoCompartment" = some (.ref C) ∧ PySem.W.nsIn K mainGlobals "NoCompartment" = some (some (.ref C))
  k_NoDeeds : ∃ C, mg "NoDeeds" = some (.ref C) ∧ PySem.W.nsIn K mainGlobals "NoDeeds" = some (some (.ref C))
  k_NoFields : ∃ C, mg "NoFields" = some (.ref C) ∧ PySem.W.nsIn K mainGlobals "NoFields" = some (some (.ref C))
  k_NoHands : ∃ C, mg "NoHands" = some (.ref C) ∧ PySem.W.nsIn K mainGlobals "NoHands" = some (some (.ref C))
  k_NoLine : ∃ C, mg "NoLine" = some (.ref C) ∧ PySem.W.nsIn K mainGlobals "NoLine" = some (some (.ref C))
  k_NoName : ∃ C, mg "NoName" = some (.ref C) ∧ PySem.W.nsIn K mainGlobals "NoName" = some (some (.ref C))
  k_NoNumber : ∃ C, mg "NoNumber" = some (.ref C) ∧ PySem.W.nsIn K mainGlobals "NoNumber" = some (some (.ref C))
  k_NoOffset : ∃ C, mg "NoOffset" = some (.ref C) ∧ PySem.W.nsIn K mainGlobals "NoOffset" = some (some (.ref C))
  k_NoRows : ∃ C, mg "NoRows" = some (.ref C) ∧ PySem.W.nsIn K mainGlobals "NoRows" = some (some (.ref C))
  k_NoRule : ∃ C, mg "NoRule" = some (.ref C) ∧ PySem.W.nsIn K mainGlobals "NoRule" = some (some (.ref C))
  k_NoSweep : ∃ C, mg "NoSweep" = some (.ref C) ∧ PySem.W.nsIn K mainGlobals "NoSweep" = some (some (.ref C))
  k_NoText : ∃ C, mg "NoText" = some (.ref C) ∧ PySem.W.nsIn K mainGlobals "NoText" = some (some (.ref C))
  k_NoWord : ∃ C, mg "NoWord" = some (.ref C) ∧ PySem.W.nsIn K mainGlobals "NoWord" = some (some (.ref C))
  k_ReachError : ∃ C, mg "ReachError" = some (.ref C) ∧ PySem.W.nsIn K mainGlobals "ReachError" = some (some (.ref C))
  k_Sweeping : ∃ C, mg "Sweeping" = some (.ref C) ∧ PySem.W.nsIn K mainGlobals "Sweeping" = some (some (.ref C))
  k_TooMany : ∃ C, mg "TooMany" = some (.ref C) ∧ PySem.W.nsIn K mainGlobals "TooMany" = some (some (.ref C))
  e_NoFields : ∀ C, PySem.W.nsIn K mainGlobals "NoFields" = some (some (.ref C)) → ErrC K C
  e_NoBounds : ∀ C, PySem.W.nsIn K mainGlobals "NoBounds" = some (some (.ref C)) → ErrC K C
  e_NoOffset : ∀ C, PySem.W.nsIn K mainGlobals "NoOffset" = some (some (.ref C)) → ErrC K C
  e_NoAddress : ∀ C, PySem.W.nsIn K mainGlobals "NoAddress" = some (some (.ref C)) → ErrC K C
  e_NoWord : ∀ C, PySem.W.nsIn K mainGlobals "NoWord" = some (some (.ref C)) → ErrC K C
  e_NoHands : ∀ C, PySem.W.nsIn K mainGlobals "NoHands" = some (some (.ref C)) → ErrC K C
  e_NoRule : ∀ C, PySem.W.nsIn K mainGlobals "NoRule" = some (some (.ref C)) → ErrC K C
  e_NoNumber : ∀ C, PySem.W.nsIn K mainGlobals "NoNumber" = some (some (.ref C)) → ErrC K C
  e_NoLine : ∀ C, PySem.W.nsIn K mainGlobals "NoLine" = some (some (.ref C)) → ErrC K C
  e_Sweeping : ∀ C, PySem.W.nsIn K mainGlobals "Sweeping" = some (some (.ref C)) → ErrC K C
  e_NoSweep : ∀ C, PySem.W.nsIn K mainGlobals "NoSweep" = some (some (.ref C)) → ErrC K C
  e_Fault : ∀ C, PySem.W.nsIn K mainGlobals "Fault" = some (some (.ref C)) → ErrC K C
  e_NoRows : ∀ C, PySem.W.nsIn K mainGlobals "NoRows" = some (some (.ref C)) → ErrC K C
  e_NoText : ∀ C, PySem.W.nsIn K mainGlobals "NoText" = some (some (.ref C)) → ErrC K C
  e_NoDeeds : ∀ C, PySem.W.nsIn K mainGlobals "NoDeeds" = some (some (.ref C)) → ErrC K C
  e_NoName : ∀ C, PySem.W.nsIn K mainGlobals "NoName" = some (some (.ref C)) → ErrC K C
  e_TooMany : ∀ C, PySem.W.nsIn K mainGlobals "TooMany" = some (some (.ref C)) → ErrC K C
  e_NoCompartment : ∀ C, PySem.W.nsIn K mainGlobals "NoCompartment" = some (some (.ref C)) → ErrC K C
  i_NoFields_NoFields : ∀ C D, PySem.W.nsIn K mainGlobals "NoFields" = some (some (.ref C)) → PySem.W.nsIn K mainGlobals "NoFields" = some (some (.ref D)) → PySem.W.kitOne K (.ref C) (.ref D) = some true
  i_NoFields_NoBounds : ∀ C D, PySem.W.nsIn K mainGlobals "NoFields" = some (some (.ref C)) → PySem.W.nsIn K mainGlobals "NoBounds" = some (some (.ref D)) → PySem.W.kitOne K (.ref C) (.ref D) = some false
  i_NoFields_NoOffset : ∀ C D, PySem.W.nsIn K mainGlobals "NoFields" = some (some (.ref C)) → PySem.W.nsIn K mainGlobals "NoOffset" = some (some (.ref D)) → PySem.W.kitOne K (.ref C) (.ref D) = some false
  i_NoFields_NoAddress : ∀ C D, PySem.W.nsIn K mainGlobals "NoFields" = some (some (.ref C)) → PySem.W.nsIn K mainGlobals "NoAddress" = some (some (.ref D)) → PySem.W.kitOne K (.ref C) (.ref D) = some false
  i_NoFields_NoWord : ∀ C D, PySem.W.nsIn K mainGlobals "NoFields" = some (some (.ref C)) → PySem.W.nsIn K mainGlobals "NoWord" = some (some (.ref D)) → PySem.W.kitOne K (.ref C) (.ref D) = some false
  i_NoFields_NoHands : ∀ C D, PySem.W.nsIn K mainGlobals "NoFields" = some (some (.ref C)) → PySem.W.nsIn K mainGlobals "NoHands" = some (some (.ref D)) → PySem.W.kitOne K (.ref C) (.ref D) = some false
  i_NoFields_NoRule : ∀ C D, PySem.W.nsIn K mainGlobals "NoFields" = some (some (.ref C)) → PySem.W.nsIn K mainGlobals "NoRule" = some (some (.ref D)) → PySem.W.kitOne K (.ref C) (.ref D) = some false
  i_NoFields_NoNumber : ∀ C D, PySem.W.nsIn K mainGlobals "NoFields" = some (some (.ref C)) → PySem.W.nsIn K mainGlobals "NoNumber" = some (some (.ref D)) → PySem.W.kitOne K (.ref C) (.ref D) = some false
  i_NoFields_NoLine : ∀ C D, PySem.W.nsIn K mainGlobals "NoFields" = some (some (.ref C)) → PySem.W.nsIn K mainGlobals "NoLine" = some (some (.ref D)) → PySem.W.kitOne K (.ref C) (.ref D) = some false
  i_NoFields_Sweeping : ∀ C D, PySem.W.nsIn K mainGlobals "NoFields" = some (some (.ref C)) → PySem.W.nsIn K mainGlobals "Sweeping" = some (some (.ref D)) → PySem.W.kitOne K (.ref C) (.ref D) = some false
  i_NoFields_NoSweep : ∀ C D, PySem.W.nsIn K mainGlobals "NoFields" = some (some (.ref C)) → PySem.W.nsIn K mainGlobals "NoSweep" = some (some (.ref D)) → PySem.W.kitOne K (.ref C) (.ref D) = some false
  i_NoFields_Fault : ∀ C D, PySem.W.nsIn K mainGlobals "NoFields" = some (some (.ref C)) → PySem.W.nsIn K mainGlobals "Fault" = some (some (.ref D)) → PySem.W.kitOne K (.ref C) (.ref D) = some false
  i_NoFields_NoRows : ∀ C D, PySem.W.nsIn K mainGlobals "NoFields" = some (some (.ref C)) → PySem.W.nsIn K mainGlobals "NoRows" = some (some (.ref D)) → PySem.W.kitOne K (.ref C) (.ref D) = some false
  i_NoFields_NoText : ∀ C D, PySem.W.nsIn K mainGlobals "NoFields" = some (some (.ref C)) → PySem.W.nsIn K mainGlobals "NoText" = some (some (.ref D)) → PySem.W.kitOne K (.ref C) (.ref D) = some false
  i_NoFields_NoDeeds : ∀ C D, PySem.W.nsIn K mainGlobals "NoFields" = some (some (.ref C)) → PySem.W.nsIn K mainGlobals "NoDeeds" = some (some (.ref D)) → PySem.W.kitOne K (.ref C) (.ref D) = some false
  i_NoFields_NoName : ∀ C D, PySem.W.nsIn K mainGlobals "NoFields" = some (some (.ref C)) → PySem.W.nsIn K mainGlobals "NoName" = some (some (.ref D)) → PySem.W.kitOne K (.ref C) (.ref D) = some false
  i_NoFields_TooMany : ∀ C D, PySem.W.nsIn K mainGlobals "NoFields" = some (some (.ref C)) → PySem.W.nsIn K mainGlobals "TooMany" = some (some (.ref D)) → PySem.W.kitOne K (.ref C) (.ref D) = some false
  i_NoFields_NoCompartment : ∀ C D, PySem.W.nsIn K mainGlobals "NoFields" = some (some (.ref C)) → PySem.W.nsIn K mainGlobals "NoCompartment" = some (some (.ref D)) → PySem.W.kitOne K (.ref C) (.ref D) = some false
  i_NoBounds_NoFields : ∀ C D, PySem.W.nsIn K mainGlobals "NoBounds" = some (some (.ref C)) → PySem.W.nsIn K mainGlobals "NoFields" = some (some (.ref D)) → PySem.W.kitOne K (.ref C) (.ref D) = some false
  i_NoBounds_NoBounds : ∀ C D, PySem.W.nsIn K mainGlobals "NoBounds" = some (some (.ref C)) → PySem.W.nsIn K mainGlobals "NoBounds" = some (some (.ref D)) → PySem.W.kitOne K (.ref C) (.ref D) = some true
  i_NoBounds_NoOffset : ∀ C D, PySem.W.nsIn K mainGlobals "NoBounds" = some (some (.ref C)) → PySem.W.nsIn K mainGlobals "NoOffset" = some (some (.ref D)) → PySem.W.kitOne K (.ref C) (.ref D) = some false
  i_NoBounds_NoAddress : ∀ C D, PySem.W.nsIn K mainGlobals "NoBounds" = some (some (.ref C)) → PySem.W.nsIn K mainGlobals "NoAddress" = some (some (.ref D)) → PySem.W.kitOne K (.ref C) (.ref D) = some false
  i_NoBounds_NoWord : ∀ C D, PySem.W.nsIn K mainGlobals "NoBounds" = some (some (.ref C)) → PySem.W.nsIn K mainGlobals "NoWord" = some (some (.ref D)) → PySem.W.kitOne K (.ref C) (.ref D) = some false
  i_NoBounds_NoHands : ∀ C D, PySem.W.nsIn K mainGlobals "NoBounds" = some (some (.ref C)) → PySem.W.nsIn K mainGlobals "NoHands" = some (some (.ref D)) → PySem.W.kitOne K (.ref C) (.ref D) = some false
  i_NoBounds_NoRule : ∀ C D, PySem.W.nsIn K mainGlobals "NoBounds" = some (some (.ref C)) → PySem.W.nsIn K mainGlobals "NoRule" = some (some (.ref D)) → PySem.W.kitOne K (.ref C) (.ref D) = some false
  i_NoBounds_NoNumber : ∀ C D, PySem.W.nsIn K mainGlobals "NoBounds" = some (some (.ref C)) → PySem.W.nsIn K mainGlobals "NoNumber" = some (some (.ref D)) → PySem.W.kitOne K (.ref C) (.ref D) = some false
  i_NoBounds_NoLine : ∀ C D, PySem.W.nsIn K mainGlobals "NoBounds" = some (some (.ref C)) → PySem.W.nsIn K mainGlobals "NoLine" = some (some (.ref D)) → PySem.W.kitOne K (.ref C) (.ref D) = some false
  i_NoBounds_Sweeping : ∀ C D, PySem.W.nsIn K mainGlobals "NoBounds" = some (some (.ref C)) → PySem.W.nsIn K mainGlobals "Sweeping" = some (some (.ref D)) → PySem.W.kitOne K (.ref C) (.ref D) = some false
  i_NoBounds_NoSweep : ∀ C D, PySem.W.nsIn K mainGlobals "NoBounds" = some (some (.ref C)) → PySem.W.nsIn K mainGlobals "NoSweep" = some (some (.ref D)) → PySem.W.kitOne K (.ref C) (.ref D) = some false
  i_NoBounds_Fault : ∀ C D, PySem.W.nsIn K mainGlobals "NoBounds" = some (some (.ref C)) → PySem.W.nsIn K mainGlobals "Fault" = some (some (.ref D)) → PySem.W.kitOne K (.ref C) (.ref D) = some false
  i_NoBounds_NoRows : ∀ C D, PySem.W.nsIn K mainGlobals "NoBounds" = some (some (.ref C)) → PySem.W.nsIn K mainGlobals "NoRows" = some (some (.ref D)) → PySem.W.kitOne K (.ref C) (.ref D) = some false
  i_NoBounds_NoText : ∀ C D, PySem.W.nsIn K mainGlobals "NoBounds" = some (some (.ref C)) → PySem.W.nsIn K mainGlobals "NoText" = some (some (.ref D)) → PySem.W.kitOne K (.ref C) (.ref D) = some false
  i_NoBounds_NoDeeds : ∀ C D, PySem.W.nsIn K mainGlobals "NoBounds" = some (some (.ref C)) → PySem.W.nsIn K mainGlobals "NoDeeds" = some (some (.ref D)) → PySem.W.kitOne K (.ref C) (.ref D) = some false
  i_NoBounds_NoName : ∀ C D, PySem.W.nsIn K mainGlobals "NoBounds" = some (some (.ref C)) → PySem.W.nsIn K mainGlobals "NoName" = some (some (.ref D)) → PySem.W.kitOne K (.ref C) (.ref D) = some false
  i_NoBounds_TooMany : ∀ C D, PySem.W.nsIn K mainGlobals "NoBounds" = some (some (.ref C)) → PySem.W.nsIn K mainGlobals "TooMany" = some (some (.ref D)) → PySem.W.kitOne K (.ref C) (.ref D) = some false
  i_NoBounds_NoCompartment : ∀ C D, PySem.W.nsIn K mainGlobals "NoBounds" = some (some (.ref C)) → PySem.W.nsIn K mainGlobals "NoCompartment" = some (some (.ref D)) → PySem.W.kitOne K (.ref C) (.ref D) = some false
  i_NoOffset_NoFields : ∀ C D, PySem.W.nsIn K mainGlobals "NoOffset" = some (some (.ref C)) → PySem.W.nsIn K mainGlobals "NoFields" = some (some (.ref D)) → PySem.W.kitOne K (.ref C) (.ref D) = some false
  i_NoOffset_NoBounds : ∀ C D, PySem.W.nsIn K mainGlobals "NoOffset" = some (some (.ref C)) → PySem.W.nsIn K mainGlobals "NoBounds" = some (some (.ref D)) → PySem.W.kitOne K (.ref C) (.ref D) = some false
  i_NoOffset_NoOffset : ∀ C D, PySem.W.nsIn K mainGlobals "NoOffset" = some (some (.ref C)) → PySem.W.nsIn K mainGlobals "NoOffset" = some (some (.ref D)) → PySem.W.kitOne K (.ref C) (.ref D) = some true
  i_NoOffset_NoAddress : ∀ C D, PySem.W.nsIn K mainGlobals "NoOffset" = some (some (.ref C)) → PySem.W.nsIn K mainGlobals "NoAddress" = some (some (.ref D)) → PySem.W.kitOne K (.ref C) (.ref D) = some false
  i_NoOffset_NoWord : ∀ C D, PySem.W.nsIn K mainGlobals "NoOffset" = some (some (.ref C)) → PySem.W.nsIn K mainGlobals "NoWord" = some (some (.ref D)) → PySem.W.kitOne K (.ref C) (.ref D) = some false
  i_NoOffset_NoHands : ∀ C D, PySem.W.nsIn K mainGlobals "NoOffset" = some (some (.ref C)) → PySem.W.nsIn K mainGlobals "NoHands" = some (some (.ref D)) → PySem.W.kitOne K (.ref C) (.ref D) = some false
  i_NoOffset_NoRule : ∀ C D, PySem.W.nsIn K mainGlobals "NoOffset" = some (some (.ref C)) → PySem.W.nsIn K mainGlobals "NoRule" = some (some (.ref D)) → PySem.W.kitOne K (.ref C) (.ref D) = some false
  i_NoOffset_NoNumber : ∀ C D, PySem.W.nsIn K mainGlobals "NoOffset" = some (some (.ref C)) → PySem.W.nsIn K mainGlobals "NoNumber" = some (some (.ref D)) → PySem.W.kitOne K (.ref C) (.ref D) = some false
  i_NoOffset_NoLine : ∀ C D, PySem.W.nsIn K mainGlobals "NoOffset" = some (some (.ref C)) → PySem.W.nsIn K mainGlobals "NoLine" = some (some (.ref D)) → PySem.W.kitOne K (.ref C) (.ref D) = some false
  i_NoOffset_Sweeping : ∀ C D, PySem.W.nsIn K mainGlobals "NoOffset" = some (some (.ref C)) → PySem.W.nsIn K mainGlobals "Sweeping" = some (some (.ref D)) → PySem.W.kitOne K (.ref C) (.ref D) = some false
  i_NoOffset_NoSweep : ∀ C D, PySem.W.nsIn K mainGlobals "NoOffset" = some (some (.ref C)) → PySem.W.nsIn K mainGlobals "NoSweep" = some (some (.ref D)) → PySem.W.kitOne K (.ref C) (.ref D) = some false
  i_NoOffset_Fault : ∀ C D, PySem.W.nsIn K mainGlobals "NoOffset" = some (some (.ref C)) → PySem.W.nsIn K mainGlobals "Fault" = some (some (.ref D)) → PySem.W.kitOne K (.ref C) (.ref D) = some false
  i_NoOffset_NoRows : ∀ C D, PySem.W.nsIn K mainGlobals "NoOffset" = some (some (.ref C)) → PySem.W.nsIn K mainGlobals "NoRows" = some (some (.ref D)) → PySem.W.kitOne K (.ref C) (.ref D) = some false
  i_NoOffset_NoText : ∀ C D, PySem.W.nsIn K mainGlobals "NoOffset" = some (some (.ref C)) → PySem.W.nsIn K mainGlobals "NoText" = some (some (.ref D)) → PySem.W.kitOne K (.ref C) (.ref D) = some false
  i_NoOffset_NoDeeds : ∀ C D, PySem.W.nsIn K mainGlobals "NoOffset" = some (some (.ref C)) → PySem.W.nsIn K mainGlobals "NoDeeds" = some (some (.ref D)) → PySem.W.kitOne K (.ref C) (.ref D) = some false
  i_NoOffset_NoName : ∀ C D, PySem.W.nsIn K mainGlobals "NoOffset" = some (some (.ref C)) → PySem.W.nsIn K mainGlobals "NoName" = some (some (.ref D)) → PySem.W.kitOne K (.ref C) (.ref D) = some false
  i_NoOffset_TooMany : ∀ C D, PySem.W.nsIn K mainGlobals "NoOffset" = some (some (.ref C)) → PySem.W.nsIn K mainGlobals "TooMany" = some (some (.ref D)) → PySem.W.kitOne K (.ref C) (.ref D) = some false
  i_NoOffset_NoCompartment : ∀ C D, PySem.W.nsIn K mainGlobals "NoOffset" = some (some (.ref C)) → PySem.W.nsIn K mainGlobals "NoCompartment" = some (some (.ref D)) → PySem.W.kitOne K (.ref C) (.ref D) = some false
  i_NoAddress_NoFields : ∀ C D, PySem.W.nsIn K mainGlobals "NoAddress" = some (some (.ref C)) → PySem.W.nsIn K mainGlobals "NoFields" = some (some (.ref D)) → PySem.W.kitOne K (.ref C) (.ref D) = some false
  i_NoAddress_NoBounds : ∀ C D, PySem.W.nsIn K mainGlobals "NoAddress" = some (some (.ref C)) → PySem.W.nsIn K mainGlobals "NoBounds" = some (some (.ref D)) → PySem.W.kitOne K (.ref C) (.ref D) = some false
  i_NoAddress_NoOffset : ∀ C D, PySem.W.nsIn K mainGlobals "NoAddress" = some (some (.ref C)) → PySem.W.nsIn K mainGlobals "NoOffset" = some (some (.ref D)) → PySem.W.kitOne K (.ref C) (.ref D) = some false
  i_NoAddress_NoAddress : ∀ C D, PySem.W.nsIn K mainGlobals "NoAddress" = some (some (.ref C)) → PySem.W.nsIn K mainGlobals "NoAddress" = some (some (.ref D)) → PySem.W.kitOne K (.ref C) (.ref D) = some true
  i_NoAddress_NoWord : ∀ C D, PySem.W.nsIn K mainGlobals "NoAddress" = some (some (.ref C)) → PySem.W.nsIn K mainGlobals "NoWord" = some (some (.ref D)) → PySem.W.kitOne K (.ref C) (.ref D) = some false
  i_NoAddress_NoHands : ∀ C D, PySem.W.nsIn K mainGlobals "NoAddress" = some (some (.ref C)) → PySem.W.nsIn K mainGlobals "NoHands" = some (some (.ref D)) → PySem.W.kitOne K (.ref C) (.ref D) = some false
  i_NoAddress_NoRule : ∀ C D, PySem.W.nsIn K mainGlobals "NoAddress" = some (some (.ref C)) → PySem.W.nsIn K mainGlobals "NoRule" = some (some (.ref D)) → PySem.W.kitOne K (.ref C) (.ref D) = some false
  i_NoAddress_NoNumber : ∀ C D, PySem.W.nsIn K mainGlobals "NoAddress" = some (some (.ref C)) → PySem.W.nsIn K mainGlobals "NoNumber" = some (some (.ref D)) → PySem.W.kitOne K (.ref C) (.ref D) = some false
  i_NoAddress_NoLine : ∀ C D, PySem.W.nsIn K mainGlobals "NoAddress" = some (some (.ref C)) → PySem.W.nsIn K mainGlobals "NoLine" = some (some (.ref D)) → PySem.W.kitOne K (.ref C) (.ref D) = some false
  i_NoAddress_Sweeping : ∀ C D, PySem.W.nsIn K mainGlobals "NoAddress" = some (some (.ref C)) → PySem.W.nsIn K mainGlobals "Sweeping" = some (some (.ref D)) → PySem.W.kitOne K (.ref C) (.ref D) = some false
  i_NoAddress_NoSweep : ∀ C D, PySem.W.nsIn K mainGlobals "NoAddress" = some (some (.ref C)) → PySem.W.nsIn K mainGlobals "NoSweep" = some (some (.ref D)) → PySem.W.kitOne K (.ref C) (.ref D) = some false
  i_NoAddress_Fault : ∀ C D, PySem.W.nsIn K mainGlobals "NoAddress" = some (some (.ref C)) → PySem.W.nsIn K mainGlobals "Fault" = some (some (.ref D)) → PySem.W.kitOne K (.ref C) (.ref D) = some false
  i_NoAddress_NoRows : ∀ C D, PySem.W.nsIn K mainGlobals "NoAddress" = some (some (.ref C)) → PySem.W.nsIn K mainGlobals "NoRows" = some (some (.ref D)) → PySem.W.kitOne K (.ref C) (.ref D) = some false
  i_NoAddress_NoText : ∀ C D, PySem.W.nsIn K mainGlobals "NoAddress" = some (some (.ref C)) → PySem.W.nsIn K mainGlobals "NoText" = some (some (.ref D)) → PySem.W.kitOne K (.ref C) (.ref D) = some false
  i_NoAddress_NoDeeds : ∀ C D, PySem.W.nsIn K mainGlobals "NoAddress" = some (some (.ref C)) → PySem.W.nsIn K mainGlobals "NoDeeds" = some (some (.ref D)) → PySem.W.kitOne K (.ref C) (.ref D) = some false
  i_NoAddress_NoName : ∀ C D, PySem.W.nsIn K mainGlobals "NoAddress" = some (some (.ref C)) → PySem.W.nsIn K mainGlobals "NoName" = some (some (.ref D)) → PySem.W.kitOne K (.ref C) (.ref D) = some false
  i_NoAddress_TooMany : ∀ C D, PySem.W.nsIn K mainGlobals "NoAddress" = some (some (.ref C)) → PySem.W.nsIn K mainGlobals "TooMany" = some (some (.ref D)) → PySem.W.kitOne K (.ref C) (.ref D) = some false
  i_NoAddress_NoCompartment : ∀ C D, PySem.W.nsIn K mainGlobals "NoAddress" = some (some (.ref C)) → PySem.W.nsIn K mainGlobals "NoCompartment" = some (some (.ref D)) → PySem.W.kitOne K (.ref C) (.ref D) = some false
  i_NoWord_NoFields : ∀ C D, PySem.W.nsIn K mainGlobals "NoWord" = some (some (.ref C)) → PySem.W.nsIn K mainGlobals "NoFields" = some (some (.ref D)) → PySem.W.kitOne K (.ref C) (.ref D) = some false
  i_NoWord_NoBounds : ∀ C D, PySem.W.nsIn K mainGlobals "NoWord" = some (some (.ref C)) → PySem.W.nsIn K mainGlobals "NoBounds" = some (some (.ref D)) → PySem.W.kitOne K (.ref C) (.ref D) = some false
  i_NoWord_NoOffset : ∀ C D, PySem.W.nsIn K mainGlobals "NoWord" = some (some (.ref C)) → PySem.W.nsIn K mainGlobals "NoOffset" = some (some (.ref D)) → PySem.W.kitOne K (.ref C) (.ref D) = some false
  i_NoWord_NoAddress : ∀ C D, PySem.W.nsIn K mainGlobals "NoWord" = some (some (.ref C)) → PySem.W.nsIn K mainGlobals "NoAddress" = some (some (.ref D)) → PySem.W.kitOne K (.ref C) (.ref D) = some false
  i_NoWord_NoWord : ∀ C D, PySem.W.nsIn K mainGlobals "NoWord" = some (some (.ref C)) → PySem.W.nsIn K mainGlobals "NoWord" = some (some (.ref D)) → PySem.W.kitOne K (.ref C) (.ref D) = some true
  i_NoWord_NoHands : ∀ C D, PySem.W.nsIn K mainGlobals "NoWord" = some (some (.ref C)) → PySem.W.nsIn K mainGlobals "NoHands" = some (some (.ref D)) → PySem.W.kitOne K (.ref C) (.ref D) = some false
  i_NoWord_NoRule : ∀ C D, PySem.W.nsIn K mainGlobals "NoWord" = some (some (.ref C)) → PySem.W.nsIn K mainGlobals "NoRule" = some (some (.ref D)) → PySem.W.kitOne K (.ref C) (.ref D) = some false
  i_NoWord_NoNumber : ∀ C D, PySem.W.nsIn K mainGlobals "NoWord" = some (some (.ref C)) → PySem.W.nsIn K mainGlobals "NoNumber" = some (some (.ref D)) → PySem.W.kitOne K (.ref C) (.ref D) = some false
  i_NoWord_NoLine : ∀ C D, PySem.W.nsIn K mainGlobals "NoWord" = some (some (.ref C)) → PySem.W.nsIn K mainGlobals "NoLine" = some (some (.ref D)) → PySem.W.kitOne K (.ref C) (.ref D) = some false
  i_NoWord_Sweeping : ∀ C D, PySem.W.nsIn K mainGlobals "NoWord" = some (some (.ref C)) → PySem.W.nsIn K mainGlobals "Sweeping" = some (some (.ref D)) → PySem.W.kitOne K (.ref C) (.ref D) = some false
  i_NoWord_NoSweep : ∀ C D, PySem.W.nsIn K mainGlobals "NoWord" = some (some (.ref C)) → PySem.W.nsIn K mainGlobals "NoSweep" = some (some (.ref D)) → PySem.W.kitOne K (.ref C) (.ref D) = some false
  i_NoWord_Fault : ∀ C D, PySem.W.nsIn K mainGlobals "NoWord" = some (some (.ref C)) → PySem.W.nsIn K mainGlobals "Fault" = some (some (.ref D)) → PySem.W.kitOne K (.ref C) (.ref D) = some false
  i_NoWord_NoRows : ∀ C D, PySem.W.nsIn K mainGlobals "NoWord" = some (some (.ref C)) → PySem.W.nsIn K mainGlobals "NoRows" = some (some (.ref D)) → PySem.W.kitOne K (.ref C) (.ref D) = some false
  i_NoWord_NoText : ∀ C D, PySem.W.nsIn K mainGlobals "NoWord" = some (some (.ref C)) → PySem.W.nsIn K mainGlobals "NoText" = some (some (.ref D)) → PySem.W.kitOne K (.ref C) (.ref D) = some false
  i_NoWord_NoDeeds : ∀ C D, PySem.W.nsIn K mainGlobals "NoWord" = some (some (.ref C)) → PySem.W.nsIn K mainGlobals "NoDeeds" = some (some (.ref D)) → PySem.W.kitOne K (.ref C) (.ref D) = some false
  i_NoWord_NoName : ∀ C D, PySem.W.nsIn K mainGlobals "NoWord" = some (some (.ref C)) → PySem.W.nsIn K mainGlobals "NoName" = some (some (.ref D)) → PySem.W.kitOne K (.ref C) (.ref D) = some false
  i_NoWord_TooMany : ∀ C D, PySem.W.nsIn K mainGlobals "NoWord" = some (some (.ref C)) → PySem.W.nsIn K mainGlobals "TooMany" = some (some (.ref D)) → PySem.W.kitOne K (.ref C) (.ref D) = some false
  i_NoWord_NoCompartment : ∀ C D, PySem.W.nsIn K mainGlobals "NoWord" = some (some (.ref C)) → PySem.W.nsIn K mainGlobals "NoCompartment" = some (some (.ref D)) → PySem.W.kitOne K (.ref C) (.ref D) = some false
  i_NoHands_NoFields : ∀ C D, PySem.W.nsIn K mainGlobals "NoHands" = some (some (.ref C)) → PySem.W.nsIn K mainGlobals "NoFields" = some (some (.ref D)) → PySem.W.kitOne K (.ref C) (.ref D) = some false
  i_NoHands_NoBounds : ∀ C D, PySem.W.nsIn K mainGlobals "NoHands" = some (some (.ref C)) → PySem.W.nsIn K mainGlobals "NoBounds" = some (some (.ref D)) → PySem.W.kitOne K (.ref C) (.ref D) = some false
  i_NoHands_NoOffset : ∀ C D, PySem.W.nsIn K mainGlobals "NoHands" = some (some (.ref C)) → PySem.W.nsIn K mainGlobals "NoOffset" = some (some (.ref D)) → PySem.W.kitOne K (.ref C) (.ref D) = some false
  i_NoHands_NoAddress : ∀ C D, PySem.W.nsIn K mainGlobals "NoHands" = some (some (.ref C)) → PySem.W.nsIn K mainGlobals "NoAddress" = some (some (.ref D)) → PySem.W.kitOne K (.ref C) (.ref D) = some false
  i_NoHands_NoWord : ∀ C D, PySem.W.nsIn K mainGlobals "NoHands" = some (some (.ref C)) → PySem.W.nsIn K mainGlobals "NoWord" = some (some (.ref D)) → PySem.W.kitOne K (.ref C) (.ref D) = some false
  i_NoHands_NoHands : ∀ C D, PySem.W.nsIn K mainGlobals "NoHands" = some (some (.ref C)) → PySem.W.nsIn K mainGlobals "NoHands" = some (some (.ref D)) → PySem.W.kitOne K (.ref C) (.ref D) = some true
  i_NoHands_NoRule : ∀ C D, PySem.W.nsIn K mainGlobals "NoHands" = some (some (.ref C)) → PySem.W.nsIn K mainGlobals "NoRule" = some (some (.ref D)) → PySem.W.kitOne K (.ref C) (.ref D) = some false
  i_NoHands_NoNumber : ∀ C D, PySem.W.nsIn K mainGlobals "NoHands" = some (some (.ref C)) → PySem.W.nsIn K mainGlobals "NoNumber" = some (some (.ref D)) → PySem.W.kitOne K (.ref C) (.ref D) = some false
  i_NoHands_NoLine : ∀ C D, PySem.W.nsIn K mainGlobals "NoHands" = some (some (.ref C)) → PySem.W.nsIn K mainGlobals "NoLine" = some (some (.ref D)) → PySem.W.kitOne K (.ref C) (.ref D) = some false
  i_NoHands_Sweeping : ∀ C D, PySem.W.nsIn K mainGlobals "NoHands" = some (some (.ref C)) → PySem.W.nsIn K mainGlobals "Sweeping" = some (some (.ref D)) → PySem.W.kitOne K (.ref C) (.ref D) = some false
  i_NoHands_NoSweep : ∀ C D, PySem.W.nsIn K mainGlobals "NoHands" = some (some (.ref C)) → PySem.W.nsIn K mainGlobals "NoSweep" = some (some (.ref D)) → PySem.W.kitOne K (.ref C) (.ref D) = some false
  i_NoHands_Fault : ∀ C D, PySem.W.nsIn K mainGlobals "NoHands" = some (some (.ref C)) → PySem.W.nsIn K mainGlobals "Fault" = some (some (.ref D)) → PySem.W.kitOne K (.ref C) (.ref D) = some false
  i_NoHands_NoRows : ∀ C D, PySem.W.nsIn K mainGlobals "NoHands" = some (some (.ref C)) → PySem.W.nsIn K mainGlobals "NoRows" = some (some (.ref D)) → PySem.W.kitOne K (.ref C) (.ref D) = some false
  i_NoHands_NoText : ∀ C D, PySem.W.nsIn K mainGlobals "NoHands" = some (some (.ref C)) → PySem.W.nsIn K mainGlobals "NoText" = some (some (.ref D)) → PySem.W.kitOne K (.ref C) (.ref D) = some false
  i_NoHands_NoDeeds : ∀ C D, PySem.W.nsIn K mainGlobals "NoHands" = some (some (.ref C)) → PySem.W.nsIn K mainGlobals "NoDeeds" = some (some (.ref D)) → PySem.W.kitOne K (.ref C) (.ref D) = some false
  i_NoHands_NoName : ∀ C D, PySem.W.nsIn K mainGlobals "NoHands" = some (some (.ref C)) → PySem.W.nsIn K mainGlobals "NoName" = some (some (.ref D)) → PySem.W.kitOne K (.ref C) (.ref D) = some false
  i_NoHands_TooMany : ∀ C D, PySem.W.nsIn K mainGlobals "NoHands" = some (some (.ref C)) → PySem.W.nsIn K mainGlobals "TooMany" = some (some (.ref D)) → PySem.W.kitOne K (.ref C) (.ref D) = some false
  i_NoHands_NoCompartment : ∀ C D, PySem.W.nsIn K mainGlobals "NoHands" = some (some (.ref C)) → PySem.W.nsIn K mainGlobals "NoCompartment" = some (some (.ref D)) → PySem.W.kitOne K (.ref C) (.ref D) = some false
  i_NoRule_NoFields : ∀ C D, PySem.W.nsIn K mainGlobals "NoRule" = some (some (.ref C)) → PySem.W.nsIn K mainGlobals "NoFields" = some (some (.ref D)) → PySem.W.kitOne K (.ref C) (.ref D) = some false
  i_NoRule_NoBounds : ∀ C D, PySem.W.nsIn K mainGlobals "NoRule" = some (some (.ref C)) → PySem.W.nsIn K mainGlobals "NoBounds" = some (some (.ref D)) → PySem.W.kitOne K (.ref C) (.ref D) = some false
  i_NoRule_NoOffset : ∀ C D, PySem.W.nsIn K mainGlobals "NoRule" = some (some (.ref C)) → PySem.W.nsIn K mainGlobals "NoOffset" = some (some (.ref D)) → PySem.W.kitOne K (.ref C) (.ref D) = some false
  i_NoRule_NoAddress : ∀ C D, PySem.W.nsIn K mainGlobals "NoRule" = some (some (.ref C)) → PySem.W.nsIn K mainGlobals "NoAddress" = some (some (.ref D)) → PySem.W.kitOne K (.ref C) (.ref D) = some false
  i_NoRule_NoWord : ∀ C D, PySem.W.nsIn K mainGlobals "NoRule" = some (some (.ref C)) → PySem.W.nsIn K mainGlobals "NoWord" = some (some (.ref D)) → PySem.W.kitOne K (.ref C) (.ref D) = some false
  i_NoRule_NoHands : ∀ C D, PySem.W.nsIn K mainGlobals "NoRule" = some (some (.ref C)) → PySem.W.nsIn K mainGlobals "NoHands" = some (some (.ref D)) → PySem.W.kitOne K (.ref C) (.ref D) = some false
  i_NoRule_NoRule : ∀ C D, PySem.W.nsIn K mainGlobals "NoRule" = some (some (.ref C)) → PySem.W.nsIn K mainGlobals "NoRule" = some (some (.ref D)) → PySem.W.kitOne K (.ref C) (.ref D) = some true
  i_NoRule_NoNumber : ∀ C D, PySem.W.nsIn K mainGlobals "NoRule" = some (some (.ref C)) → PySem.W.nsIn K mainGlobals "NoNumber" = some (some (.ref D)) → PySem.W.kitOne K (.ref C) (.ref D) = some false
  i_NoRule_NoLine : ∀ C D, PySem.W.nsIn K mainGlobals "NoRule" = some (some (.ref C)) → PySem.W.nsIn K mainGlobals "NoLine" = some (some (.ref D)) → PySem.W.kitOne K (.ref C) (.ref D) = some false
  i_NoRule_Sweeping : ∀ C D, PySem.W.nsIn K mainGlobals "NoRule" = some (some (.ref C)) → PySem.W.nsIn K mainGlobals "Sweeping" = some (some (.ref D)) → PySem.W.kitOne K (.ref C) (.ref D) = some false
  i_NoRule_NoSweep : ∀ C D, PySem.W.nsIn K mainGlobals "NoRule" = some (some (.ref C)) → PySem.W.nsIn K mainGlobals "NoSweep" = some (some (.ref D)) → PySem.W.kitOne K (.ref C) (.ref D) = some false
  i_NoRule_Fault : ∀ C D, PySem.W.nsIn K mainGlobals "NoRule" = some (some (.ref C)) → PySem.W.nsIn K mainGlobals "Fault" = some (some (.ref D)) → PySem.W.kitOne K (.ref C) (.ref D) = some false
  i_NoRule_NoRows : ∀ C D, PySem.W.nsIn K mainGlobals "NoRule" = some (some (.ref C)) → PySem.W.nsIn K mainGlobals "NoRows" = some (some (.ref D)) → PySem.W.kitOne K (.ref C) (.ref D) = some false
  i_NoRule_NoText : ∀ C D, PySem.W.nsIn K mainGlobals "NoRule" = some (some (.ref C)) → PySem.W.nsIn K mainGlobals "NoText" = some (some (.ref D)) → PySem.W.kitOne K (.ref C) (.ref D) = some false
  i_NoRule_NoDeeds : ∀ C D, PySem.W.nsIn K mainGlobals "NoRule" = some (some (.ref C)) → PySem.W.nsIn K mainGlobals "NoDeeds" = some (some (.ref D)) → PySem.W.kitOne K (.ref C) (.ref D) = some false
  i_NoRule_NoName : ∀ C D, PySem.W.nsIn K mainGlobals "NoRule" = some (some (.ref C)) → PySem.W.nsIn K mainGlobals "NoName" = some (some (.ref D)) → PySem.W.kitOne K (.ref C) (.ref D) = some false
  i_NoRule_TooMany : ∀ C D, PySem.W.nsIn K mainGlobals "NoRule" = some (some (.ref C)) → PySem.W.nsIn K mainGlobals "TooMany" = some (some (.ref D)) → PySem.W.kitOne K (.ref C) (.ref D) = some false
  i_NoRule_NoCompartment : ∀ C D, PySem.W.nsIn K mainGlobals "NoRule" = some (some (.ref C)) → PySem.W.nsIn K mainGlobals "NoCompartment" = some (some (.ref D)) → PySem.W.kitOne K (.ref C) (.ref D) = some false
  i_NoNumber_NoFields : ∀ C D, PySem.W.nsIn K mainGlobals "NoNumber" = some (some (.ref C)) → PySem.W.nsIn K mainGlobals "NoFields" = some (some (.ref D)) → PySem.W.kitOne K (.ref C) (.ref D) = some false
  i_NoNumber_NoBounds : ∀ C D, PySem.W.nsIn K mainGlobals "NoNumber" = some (some (.ref C)) → PySem.W.nsIn K mainGlobals "NoBounds" = some (some (.ref D)) → PySem.W.kitOne K (.ref C) (.ref D) = some false
  i_NoNumber_NoOffset : ∀ C D, PySem.W.nsIn K mainGlobals "NoNumber" = some (some (.ref C)) → PySem.W.nsIn K mainGlobals "NoOffset" = some (some (.ref D)) → PySem.W.kitOne K (.ref C) (.ref D) = some false
  i_NoNumber_NoAddress : ∀ C D, PySem.W.nsIn K mainGlobals "NoNumber" = some (some (.ref C)) → PySem.W.nsIn K mainGlobals "NoAddress" = some (some (.ref D)) → PySem.W.kitOne K (.ref C) (.ref D) = some false
  i_NoNumber_NoWord : ∀ C D, PySem.W.nsIn K mainGlobals "NoNumber" = some (some (.ref C)) → PySem.W.nsIn K mainGlobals "NoWord" = some (some (.ref D)) → PySem.W.kitOne K (.ref C) (.ref D) = some false
  i_NoNumber_NoHands : ∀ C D, PySem.W.nsIn K mainGlobals "NoNumber" = some (some (.ref C)) → PySem.W.nsIn K mainGlobals "NoHands" = some (some (.ref D)) → PySem.W.kitOne K (.ref C) (.ref D) = some false
  i_NoNumber_NoRule : ∀ C D, PySem.W.nsIn K mainGlobals "NoNumber" = some (some (.ref C)) → PySem.W.nsIn K mainGlobals "NoRule" = some (some (.ref D)) → PySem.W.kitOne K (.ref C) (.ref D) = some false
  i_NoNumber_NoNumber : ∀ C D, PySem.W.nsIn K mainGlobals "NoNumber" = some (some (.ref C)) → PySem.W.nsIn K mainGlobals "NoNumber" = some (some (.ref D)) → PySem.W.kitOne K (.ref C) (.ref D) = some true
  i_NoNumber_NoLine : ∀ C D, PySem.W.nsIn K mainGlobals "NoNumber" = some (some (.ref C)) → PySem.W.nsIn K mainGlobals "NoLine" = some (some (.ref D)) → PySem.W.kitOne K (.ref C) (.ref D) = some false
  i_NoNumber_Sweeping : ∀ C D, PySem.W.nsIn K mainGlobals "NoNumber" = some (some (.ref C)) → PySem.W.nsIn K mainGlobals "Sweeping" = some (some (.ref D)) → PySem.W.kitOne K (.ref C) (.ref D) = some false
  i_NoNumber_NoSweep : ∀ C D, PySem.W.nsIn K mainGlobals "NoNumber" = some (some (.ref C)) → PySem.W.nsIn K mainGlobals "NoSweep" = some (some (.ref D)) → PySem.W.kitOne K (.ref C) (.ref D) = some false
  i_NoNumber_Fault : ∀ C D, PySem.W.nsIn K mainGlobals "NoNumber" = some (some (.ref C)) → PySem.W.nsIn K mainGlobals "Fault" = some (some (.ref D)) → PySem.W.kitOne K (.ref C) (.ref D) = some false
  i_NoNumber_NoRows : ∀ C D, PySem.W.nsIn K mainGlobals "NoNumber" = some (some (.ref C)) → PySem.W.nsIn K mainGlobals "NoRows" = some (some (.ref D)) → PySem.W.kitOne K (.ref C) (.ref D) = some false
  i_NoNumber_NoText : ∀ C D, PySem.W.nsIn K mainGlobals "NoNumber" = some (some (.ref C)) → PySem.W.nsIn K mainGlobals "NoText" = some (some (.ref D)) → PySem.W.kitOne K (.ref C) (.ref D) = some false
  i_NoNumber_NoDeeds : ∀ C D, PySem.W.nsIn K mainGlobals "NoNumber" = some (some (.ref C)) → PySem.W.nsIn K mainGlobals "NoDeeds" = some (some (.ref D)) → PySem.W.kitOne K (.ref C) (.ref D) = some false
  i_NoNumber_NoName : ∀ C D, PySem.W.nsIn K mainGlobals "NoNumber" = some (some (.ref C)) → PySem.W.nsIn K mainGlobals "NoName" = some (some (.ref D)) → PySem.W.kitOne K (.ref C) (.ref D) = some false
  i_NoNumber_TooMany : ∀ C D, PySem.W.nsIn K mainGlobals "NoNumber" = some (some (.ref C)) → PySem.W.nsIn K mainGlobals "TooMany" = some (some (.ref D)) → PySem.W.kitOne K (.ref C) (.ref D) = some false
  i_NoNumber_NoCompartment : ∀ C D, PySem.W.nsIn K mainGlobals "NoNumber" = some (some (.ref C)) → PySem.W.nsIn K mainGlobals "NoCompartment" = some (some (.ref D)) → PySem.W.kitOne K (.ref C) (.ref D) = some false
  i_NoLine_NoFields : ∀ C D, PySem.W.nsIn K mainGlobals "NoLine" = some (some (.ref C)) → PySem.W.nsIn K mainGlobals "NoFields" = some (some (.ref D)) → PySem.W.kitOne K (.ref C) (.ref D) = some false
  i_NoLine_NoBounds : ∀ C D, PySem.W.nsIn K mainGlobals "NoLine" = some (some (.ref C)) → PySem.W.nsIn K mainGlobals "NoBounds" = some (some (.ref D)) → PySem.W.kitOne K (.ref C) (.ref D) = some false
  i_NoLine_NoOffset : ∀ C D, PySem.W.nsIn K mainGlobals "NoLine" = some (some (.ref C)) → PySem.W.nsIn K mainGlobals "NoOffset" = some (some (.ref D)) → PySem.W.kitOne K (.ref C) (.ref D) = some false
  i_NoLine_NoAddress : ∀ C D, PySem.W.nsIn K mainGlobals "NoLine" = some (some (.ref C)) → PySem.W.nsIn K mainGlobals "NoAddress" = some (some (.ref D)) → PySem.W.kitOne K (.ref C) (.ref D) = some false
  i_NoLine_NoWord : ∀ C D, PySem.W.nsIn K mainGlobals "NoLine" = some (some (.ref C)) → PySem.W.nsIn K mainGlobals "NoWord" = some (some (.ref D)) → PySem.W.kitOne K (.ref C) (.ref D) = some false
  i_NoLine_NoHands : ∀ C D, PySem.W.nsIn K mainGlobals "NoLine" = some (some (.ref C)) → PySem.W.nsIn K mainGlobals "NoHands" = some (some (.ref D)) → PySem.W.kitOne K (.ref C) (.ref D) = some false
  i_NoLine_NoRule : ∀ C D, PySem.W.nsIn K mainGlobals "NoLine" = some (some (.ref C)) → PySem.W.nsIn K mainGlobals "NoRule" = some (some (.ref D)) → PySem.W.kitOne K (.ref C) (.ref D) = some false
  i_NoLine_NoNumber : ∀ C D, PySem.W.nsIn K mainGlobals "NoLine" = some (some (.ref C)) → PySem.W.nsIn K mainGlobals "NoNumber" = some (some (.ref D)) → PySem.W.kitOne K (.ref C) (.ref D) = some false
  i_NoLine_NoLine : ∀ C D, PySem.W.nsIn K mainGlobals "NoLine" = some (some (.ref C)) → PySem.W.nsIn K mainGlobals "NoLine" = some (some (.ref D)) → PySem.W.kitOne K (.ref C) (.ref D) = some true
  i_NoLine_Sweeping : ∀ C D, PySem.W.nsIn K mainGlobals "NoLine" = some (some (.ref C)) → PySem.W.nsIn K mainGlobals "Sweeping" = some (some (.ref D)) → PySem.W.kitOne K (.ref C) (.ref D) = some false
  i_NoLine_NoSweep : ∀ C D, PySem.W.nsIn K mainGlobals "NoLine" = some (some (.ref C)) → PySem.W.nsIn K mainGlobals "NoSweep" = some (some (.ref D)) → PySem.W.kitOne K (.ref C) (.ref D) = some false
  i_NoLine_Fault : ∀ C D, PySem.W.nsIn K mainGlobals "NoLine" = some (some (.ref C)) → PySem.W.nsIn K mainGlobals "Fault" = some (some (.ref D)) → PySem.W.kitOne K (.ref C) (.ref D) = some false
  i_NoLine_NoRows : ∀ C D, PySem.W.nsIn K mainGlobals "NoLine" = some (some (.ref C)) → PySem.W.nsIn K mainGlobals "NoRows" = some (some (.ref D)) → PySem.W.kitOne K (.ref C) (.ref D) = some false
  i_NoLine_NoText : ∀ C D, PySem.W.nsIn K mainGlobals "NoLine" = some (some (.ref C)) → PySem.W.nsIn K mainGlobals "NoText" = some (some (.ref D)) → PySem.W.kitOne K (.ref C) (.ref D) = some false
  i_NoLine_NoDeeds : ∀ C D, PySem.W.nsIn K mainGlobals "NoLine" = some (some (.ref C)) → PySem.W.nsIn K mainGlobals "NoDeeds" = some (some (.ref D)) → PySem.W.kitOne K (.ref C) (.ref D) = some false
  i_NoLine_NoName : ∀ C D, PySem.W.nsIn K mainGlobals "NoLine" = some (some (.ref C)) → PySem.W.nsIn K mainGlobals "NoName" = some (some (.ref D)) → PySem.W.kitOne K (.ref C) (.ref D) = some false
  i_NoLine_TooMany : ∀ C D, PySem.W.nsIn K mainGlobals "NoLine" = some (some (.ref C)) → PySem.W.nsIn K mainGlobals "TooMany" = some (some (.ref D)) → PySem.W.kitOne K (.ref C) (.ref D) = some false
  i_NoLine_NoCompartment : ∀ C D, PySem.W.nsIn K mainGlobals "NoLine" = some (some (.ref C)) → PySem.W.nsIn K mainGlobals "NoCompartment" = some (some (.ref D)) → PySem.W.kitOne K (.ref C) (.ref D) = some false
  i_Sweeping_NoFields : ∀ C D, PySem.W.nsIn K mainGlobals "Sweeping" = some (some (.ref C)) → PySem.W.nsIn K mainGlobals "NoFields" = some (some (.ref D)) → PySem.W.kitOne K (.ref C) (.ref D) = some false
  i_Sweeping_NoBounds : ∀ C D, PySem.W.nsIn K mainGlobals "Sweeping" = some (some (.ref C)) → PySem.W.nsIn K mainGlobals "NoBounds" = some (some (.ref D)) → PySem.W.kitOne K (.ref C) (.ref D) = some false
  i_Sweeping_NoOffset : ∀ C D, PySem.W.nsIn K mainGlobals "Sweeping" = some (some (.ref C)) → PySem.W.nsIn K mainGlobals "NoOffset" = some (some (.ref D)) → PySem.W.kitOne K (.ref C) (.ref D) = some false
  i_Sweeping_NoAddress : ∀ C D, PySem.W.nsIn K mainGlobals "Sweeping" = some (some (.ref C)) → PySem.W.nsIn K mainGlobals "NoAddress" = some (some (.ref D)) → PySem.W.kitOne K (.ref C) (.ref D) = some false
  i_Sweeping_NoWord : ∀ C D, PySem.W.nsIn K mainGlobals "Sweeping" = some (some (.ref C)) → PySem.W.nsIn K mainGlobals "NoWord" = some (some (.ref D)) → PySem.W.kitOne K (.ref C) (.ref D) = some false
  i_Sweeping_NoHands : ∀ C D, PySem.W.nsIn K mainGlobals "Sweeping" = some (some (.ref C)) → PySem.W.nsIn K mainGlobals "NoHands" = some (some (.ref D)) → PySem.W.kitOne K (.ref C) (.ref D) = some false
  i_Sweeping_NoRule : ∀ C D, PySem.W.nsIn K mainGlobals "Sweeping" = some (some (.ref C)) → PySem.W.nsIn K mainGlobals "NoRule" = some (some (.ref D)) → PySem.W.kitOne K (.ref C) (.ref D) = some false
  i_Sweeping_NoNumber : ∀ C D, PySem.W.nsIn K mainGlobals "Sweeping" = some (some (.ref C)) → PySem.W.nsIn K mainGlobals "NoNumber" = some (some (.ref D)) → PySem.W.kitOne K (.ref C) (.ref D) = some false
  i_Sweeping_NoLine : ∀ C D, PySem.W.nsIn K mainGlobals "Sweeping" = some (some (.ref C)) → PySem.W.nsIn K mainGlobals "NoLine" = some (some (.ref D)) → PySem.W.kitOne K (.ref C) (.ref D) = some false
  i_Sweeping_Sweeping : ∀ C D, PySem.W.nsIn K mainGlobals "Sweeping" = some (some (.ref C)) → PySem.W.nsIn K mainGlobals "Sweeping" = some (some (.ref D)) → PySem.W.kitOne K (.ref C) (.ref D) = some true
  i_Sweeping_NoSweep : ∀ C D, PySem.W.nsIn K mainGlobals "Sweeping" = some (some (.ref C)) → PySem.W.nsIn K mainGlobals "NoSweep" = some (some (.ref D)) → PySem.W.kitOne K (.ref C) (.ref D) = some false
  i_Sweeping_Fault : ∀ C D, PySem.W.nsIn K mainGlobals "Sweeping" = some (some (.ref C)) → PySem.W.nsIn K mainGlobals "Fault" = some (some (.ref D)) → PySem.W.kitOne K (.ref C) (.ref D) = some false
  i_Sweeping_NoRows : ∀ C D, PySem.W.nsIn K mainGlobals "Sweeping" = some (some (.ref C)) → PySem.W.nsIn K mainGlobals "NoRows" = some (some (.ref D)) → PySem.W.kitOne K (.ref C) (.ref D) = some false
  i_Sweeping_NoText : ∀ C D, PySem.W.nsIn K mainGlobals "Sweeping" = some (some (.ref C)) → PySem.W.nsIn K mainGlobals "NoText" = some (some (.ref D)) → PySem.W.kitOne K (.ref C) (.ref D) = some false
  i_Sweeping_NoDeeds : ∀ C D, PySem.W.nsIn K mainGlobals "Sweeping" = some (some (.ref C)) → PySem.W.nsIn K mainGlobals "NoDeeds" = some (some (.ref D)) → PySem.W.kitOne K (.ref C) (.ref D) = some false
  i_Sweeping_NoName : ∀ C D, PySem.W.nsIn K mainGlobals "Sweeping" = some (some (.ref C)) → PySem.W.nsIn K mainGlobals "NoName" = some (some (.ref D)) → PySem.W.kitOne K (.ref C) (.ref D) = some false
  i_Sweeping_TooMany : ∀ C D, PySem.W.nsIn K mainGlobals "Sweeping" = some (some (.ref C)) → PySem.W.nsIn K mainGlobals "TooMany" = some (some (.ref D)) → PySem.W.kitOne K (.ref C) (.ref D) = some false
  i_Sweeping_NoCompartment : ∀ C D, PySem.W.nsIn K mainGlobals "Sweeping" = some (some (.ref C)) → PySem.W.nsIn K mainGlobals "NoCompartment" = some (some (.ref D)) → PySem.W.kitOne K (.ref C) (.ref D) = some false
  i_NoSweep_NoFields : ∀ C D, PySem.W.nsIn K mainGlobals "NoSweep" = some (some (.ref C)) → PySem.W.nsIn K mainGlobals "NoFields" = some (some (.ref D)) → PySem.W.kitOne K (.ref C) (.ref D) = some false
  i_NoSweep_NoBounds : ∀ C D, PySem.W.nsIn K mainGlobals "NoSweep" = some (some (.ref C)) → PySem.W.nsIn K mainGlobals "NoBounds" = some (some (.ref D)) → PySem.W.kitOne K (.ref C) (.ref D) = some false
  i_NoSweep_NoOffset : ∀ C D, PySem.W.nsIn K mainGlobals "NoSweep" = some (some (.ref C)) → PySem.W.nsIn K mainGlobals "NoOffset" = some (some (.ref D)) → PySem.W.kitOne K (.ref C) (.ref D) = some false
  i_NoSweep_NoAddress : ∀ C D, PySem.W.nsIn K mainGlobals "NoSweep" = some (some (.ref C)) → PySem.W.nsIn K mainGlobals "NoAddress" = some (some (.ref D)) → PySem.W.kitOne K (.ref C) (.ref D) = some false
  i_NoSweep_NoWord : ∀ C D, PySem.W.nsIn K mainGlobals "NoSweep" = some (some (.ref C)) → PySem.W.nsIn K mainGlobals "NoWord" = some (some (.ref D)) → PySem.W.kitOne K (.ref C) (.ref D) = some false
  i_NoSweep_NoHands : ∀ C D, PySem.W.nsIn K mainGlobals "NoSweep" = some (some (.ref C)) → PySem.W.nsIn K mainGlobals "NoHands" = some (some (.ref D)) → PySem.W.kitOne K (.ref C) (.ref D) = some false
  i_NoSweep_NoRule : ∀ C D, PySem.W.nsIn K mainGlobals "NoSweep" = some (some (.ref C)) → PySem.W.nsIn K mainGlobals "NoRule" = some (some (.ref D)) → PySem.W.kitOne K (.ref C) (.ref D) = some false
  i_NoSweep_NoNumber : ∀ C D, PySem.W.nsIn K mainGlobals "NoSweep" = some (some (.ref C)) → PySem.W.nsIn K mainGlobals "NoNumber" = some (some (.ref D)) → PySem.W.kitOne K (.ref C) (.ref D) = some false
  i_NoSweep_NoLine : ∀ C D, PySem.W.nsIn K mainGlobals "NoSweep" = some (some (.ref C)) → PySem.W.nsIn K mainGlobals "NoLine" = some (some (.ref D)) → PySem.W.kitOne K (.ref C) (.ref D) = some false
  i_NoSweep_Sweeping : ∀ C D, PySem.W.nsIn K mainGlobals "NoSweep" = some (some (.ref C)) → PySem.W.nsIn K mainGlobals "Sweeping" = some (some (.ref D)) → PySem.W.kitOne K (.ref C) (.ref D) = some false
  i_NoSweep_NoSweep : ∀ C D, PySem.W.nsIn K mainGlobals "NoSweep" = some (some (.ref C)) → PySem.W.nsIn K mainGlobals "NoSweep" = some (some (.ref D)) → PySem.W.kitOne K (.ref C) (.ref D) = some true
  i_NoSweep_Fault : ∀ C D, PySem.W.nsIn K mainGlobals "NoSweep" = some (some (.ref C)) → PySem.W.nsIn K mainGlobals "Fault" = some (some (.ref D)) → PySem.W.kitOne K (.ref C) (.ref D) = some false
  i_NoSweep_NoRows : ∀ C D, PySem.W.nsIn K mainGlobals "NoSweep" = some (some (.ref C)) → PySem.W.nsIn K mainGlobals "NoRows" = some (some (.ref D)) → PySem.W.kitOne K (.ref C) (.ref D) = some false
  i_NoSweep_NoText : ∀ C D, PySem.W.nsIn K mainGlobals "NoSweep" = some (some (.ref C)) → PySem.W.nsIn K mainGlobals "NoText" = some (some (.ref D)) → PySem.W.kitOne K (.ref C) (.ref D) = some false
  i_NoSweep_NoDeeds : ∀ C D, PySem.W.nsIn K mainGlobals "NoSweep" = some (some (.ref C)) → PySem.W.nsIn K mainGlobals "NoDeeds" = some (some (.ref D)) → PySem.W.kitOne K (.ref C) (.ref D) = some false
  i_NoSweep_NoName : ∀ C D, PySem.W.nsIn K mainGlobals "NoSweep" = some (some (.ref C)) → PySem.W.nsIn K mainGlobals "NoName" = some (some (.ref D)) → PySem.W.kitOne K (.ref C) (.ref D) = some false
  i_NoSweep_TooMany : ∀ C D, PySem.W.nsIn K mainGlobals "NoSweep" = some (some (.ref C)) → PySem.W.nsIn K mainGlobals "TooMany" = some (some (.ref D)) → PySem.W.kitOne K (.ref C) (.ref D) = some false
  i_NoSweep_NoCompartment : ∀ C D, PySem.W.nsIn K mainGlobals "NoSweep" = some (some (.ref C)) → PySem.W.nsIn K mainGlobals "NoCompartment" = some (some (.ref D)) → PySem.W.kitOne K (.ref C) (.ref D) = some false
  i_Fault_NoFields : ∀ C D, PySem.W.nsIn K mainGlobals "Fault" = some (some (.ref C)) → PySem.W.nsIn K mainGlobals "NoFields" = some (some (.ref D)) → PySem.W.kitOne K (.ref C) (.ref D) = some false
  i_Fault_NoBounds : ∀ C D, PySem.W.nsIn K mainGlobals "Fault" = some (some (.ref C)) → PySem.W.nsIn K mainGlobals "NoBounds" = some (some (.ref D)) → PySem.W.kitOne K (.ref C) (.ref D) = some false
  i_Fault_NoOffset : ∀ C D, PySem.W.nsIn K mainGlobals "Fault" = some (some (.ref C)) → PySem.W.nsIn K mainGlobals "NoOffset" = some (some (.ref D)) → PySem.W.kitOne K (.ref C) (.ref D) = some false
  i_Fault_NoAddress : ∀ C D, PySem.W.nsIn K mainGlobals "Fault" = some (some (.ref C)) → PySem.W.nsIn K mainGlobals "NoAddress" = some (some (.ref D)) → PySem.W.kitOne K (.ref C) (.ref D) = some false
  i_Fault_NoWord : ∀ C D, PySem.W.nsIn K mainGlobals "Fault" = some (some (.ref C)) → PySem.W.nsIn K mainGlobals "NoWord" = some (some (.ref D)) → PySem.W.kitOne K (.ref C) (.ref D) = some false
  i_Fault_NoHands : ∀ C D, PySem.W.nsIn K mainGlobals "Fault" = some (some (.ref C)) → PySem.W.nsIn K mainGlobals "NoHands" = some (some (.ref D)) → PySem.W.kitOne K (.ref C) (.ref D) = some false
  i_Fault_NoRule : ∀ C D, PySem.W.nsIn K mainGlobals "Fault" = some (some (.ref C)) → PySem.W.nsIn K mainGlobals "NoRule" = some (some (.ref D)) → PySem.W.kitOne K (.ref C) (.ref D) = some false
  i_Fault_NoNumber : ∀ C D, PySem.W.nsIn K mainGlobals "Fault" = some (some (.ref C)) → PySem.W.nsIn K mainGlobals "NoNumber" = some (some (.ref D)) → PySem.W.kitOne K (.ref C) (.ref D) = some false
  i_Fault_NoLine : ∀ C D, PySem.W.nsIn K mainGlobals "Fault" = some (some (.ref C)) → PySem.W.nsIn K mainGlobals "NoLine" = some (some (.ref D)) → PySem.W.kitOne K (.ref C) (.ref D) = some false
  i_Fault_Sweeping : ∀ C D, PySem.W.nsIn K mainGlobals "Fault" = some (some (.ref C)) → PySem.W.nsIn K mainGlobals "Sweeping" = some (some (.ref D)) → PySem.W.kitOne K (.ref C) (.ref D) = some false
  i_Fault_NoSweep : ∀ C D, PySem.W.nsIn K mainGlobals "Fault" = some (some (.ref C)) → PySem.W.nsIn K mainGlobals "NoSweep" = some (some (.ref D)) → PySem.W.kitOne K (.ref C) (.ref D) = some false
  i_Fault_Fault : ∀ C D, PySem.W.nsIn K mainGlobals "Fault" = some (some (.ref C)) → PySem.W.nsIn K mainGlobals "Fault" = some (some (.ref D)) → PySem.W.kitOne K (.ref C) (.ref D) = some true
  i_Fault_NoRows : ∀ C D, PySem.W.nsIn K mainGlobals "Fault" = some (some (.ref C)) → PySem.W.nsIn K mainGlobals "NoRows" = some (some (.ref D)) → PySem.W.kitOne K (.ref C) (.ref D) = some false
  i_Fault_NoText : ∀ C D, PySem.W.nsIn K mainGlobals "Fault" = some (some (.ref C)) → PySem.W.nsIn K mainGlobals "NoText" = some (some (.ref D)) → PySem.W.kitOne K (.ref C) (.ref D) = some false
  i_Fault_NoDeeds : ∀ C D, PySem.W.nsIn K mainGlobals "Fault" = some (some (.ref C)) → PySem.W.nsIn K mainGlobals "NoDeeds" = some (some (.ref D)) → PySem.W.kitOne K (.ref C) (.ref D) = some false
  i_Fault_NoName : ∀ C D, PySem.W.nsIn K mainGlobals "Fault" = some (some (.ref C)) → PySem.W.nsIn K mainGlobals "NoName" = some (some (.ref D)) → PySem.W.kitOne K (.ref C) (.ref D) = some false
  i_Fault_TooMany : ∀ C D, PySem.W.nsIn K mainGlobals "Fault" = some (some (.ref C)) → PySem.W.nsIn K mainGlobals "TooMany" = some (some (.ref D)) → PySem.W.kitOne K (.ref C) (.ref D) = some false
  i_Fault_NoCompartment : ∀ C D, PySem.W.nsIn K mainGlobals "Fault" = some (some (.ref C)) → PySem.W.nsIn K mainGlobals "NoCompartment" = some (some (.ref D)) → PySem.W.kitOne K (.ref C) (.ref D) = some false
  i_NoRows_NoFields : ∀ C D, PySem.W.nsIn K mainGlobals "NoRows" = some (some (.ref C)) → PySem.W.nsIn K mainGlobals "NoFields" = some (some (.ref D)) → PySem.W.kitOne K (.ref C) (.ref D) = some false
  i_NoRows_NoBounds : ∀ C D, PySem.W.nsIn K mainGlobals "NoRows" = some (some (.ref C)) → PySem.W.nsIn K mainGlobals "NoBounds" = some (some (.ref D)) → PySem.W.kitOne K (.ref C) (.ref D) = some false
  i_NoRows_NoOffset : ∀ C D, PySem.W.nsIn K mainGlobals "NoRows" = some (some (.ref C)) → PySem.W.nsIn K mainGlobals "NoOffset" = some (some (.ref D)) → PySem.W.kitOne K (.ref C) (.ref D) = some false
  i_NoRows_NoAddress : ∀ C D, PySem.W.nsIn K mainGlobals "NoRows" = some (some (.ref C)) → PySem.W.nsIn K mainGlobals "NoAddress" = some (some (.ref D)) → PySem.W.kitOne K (.ref C) (.ref D) = some false
  i_NoRows_NoWord : ∀ C D, PySem.W.nsIn K mainGlobals "NoRows" = some (some (.ref C)) → PySem.W.nsIn K mainGlobals "NoWord" = some (some (.ref D)) → PySem.W.kitOne K (.ref C) (.ref D) = some false
  i_NoRows_NoHands : ∀ C D, PySem.W.nsIn K mainGlobals "NoRows" = some (some (.ref C)) → PySem.W.nsIn K mainGlobals "NoHands" = some (some (.ref D)) → PySem.W.kitOne K (.ref C) (.ref D) = some false
  i_NoRows_NoRule : ∀ C D, PySem.W.nsIn K mainGlobals "NoRows" = some (some (.ref C)) → PySem.W.nsIn K mainGlobals "NoRule" = some (some (.ref D)) → PySem.W.kitOne K (.ref C) (.ref D) = some false
  i_NoRows_NoNumber : ∀ C D, PySem.W.nsIn K mainGlobals "NoRows" = some (some (.ref C)) → PySem.W.nsIn K mainGlobals "NoNumber" = some (some (.ref D)) → PySem.W.kitOne K (.ref C) (.ref D) = some false
  i_NoRows_NoLine : ∀ C D, PySem.W.nsIn K mainGlobals "NoRows" = some (some (.ref C)) → PySem.W.nsIn K mainGlobals "NoLine" = some (some (.ref D)) → PySem.W.kitOne K (.ref C) (.ref D) = some false
  i_NoRows_Sweeping : ∀ C D, PySem.W.nsIn K mainGlobals "NoRows" = some (some (.ref C)) → PySem.W.nsIn K mainGlobals "Sweeping" = some (some (.ref D)) → PySem.W.kitOne K (.ref C) (.ref D) = some false
  i_NoRows_NoSweep : ∀ C D, PySem.W.nsIn K mainGlobals "NoRows" = some (some (.ref C)) → PySem.W.nsIn K mainGlobals "NoSweep" = some (some (.ref D)) → PySem.W.kitOne K (.ref C) (.ref D) = some false
  i_NoRows_Fault : ∀ C D, PySem.W.nsIn K mainGlobals "NoRows" = some (some (.ref C)) → PySem.W.nsIn K mainGlobals "Fault" = some (some (.ref D)) → PySem.W.kitOne K (.ref C) (.ref D) = some false
  i_NoRows_NoRows : ∀ C D, PySem.W.nsIn K mainGlobals "NoRows" = some (some (.ref C)) → PySem.W.nsIn K mainGlobals "NoRows" = some (some (.ref D)) → PySem.W.kitOne K (.ref C) (.ref D) = some true
  i_NoRows_NoText : ∀ C D, PySem.W.nsIn K mainGlobals "NoRows" = some (some (.ref C)) → PySem.W.nsIn K mainGlobals "NoText" = some (some (.ref D)) → PySem.W.kitOne K (.ref C) (.ref D) = some false
  i_NoRows_NoDeeds : ∀ C D, PySem.W.nsIn K mainGlobals "NoRows" = some (some (.ref C)) → PySem.W.nsIn K mainGlobals "NoDeeds" = some (some (.ref D)) → PySem.W.kitOne K (.ref C) (.ref D) = some false
  i_NoRows_NoName : ∀ C D, PySem.W.nsIn K mainGlobals "NoRows" = some (some (.ref C)) → PySem.W.nsIn K mainGlobals "NoName" = some (some (.ref D)) → PySem.W.kitOne K (.ref C) (.ref D) = some false
  i_NoRows_TooMany : ∀ C D, PySem.W.nsIn K mainGlobals "NoRows" = some (some (.ref C)) → PySem.W.nsIn K mainGlobals "TooMany" = some (some (.ref D)) → PySem.W.kitOne K (.ref C) (.ref D) = some false
  i_NoRows_NoCompartment : ∀ C D, PySem.W.nsIn K mainGlobals "NoRows" = some (some (.ref C)) → PySem.W.nsIn K mainGlobals "NoCompartment" = some (some (.ref D)) → PySem.W.kitOne K (.ref C) (.ref D) = some false
  i_NoText_NoFields : ∀ C D, PySem.W.nsIn K mainGlobals "NoText" = some (some (.ref C)) → PySem.W.nsIn K mainGlobals "NoFields" = some (some (.ref D)) → PySem.W.kitOne K (.ref C) (.ref D) = some false
  i_NoText_NoBounds : ∀ C D, PySem.W.nsIn K mainGlobals "NoText" = some (some (.ref C)) → PySem.W.nsIn K mainGlobals "NoBounds" = some (some (.ref D)) → PySem.W.kitOne K (.ref C) (.ref D) = some false
  i_NoText_NoOffset : ∀ C D, PySem.W.nsIn K mainGlobals "NoText" = some (some (.ref C)) → PySem.W.nsIn K mainGlobals "NoOffset" = some (some (.ref D)) → PySem.W.kitOne K (.ref C) (.ref D) = some false
  i_NoText_NoAddress : ∀ C D, PySem.W.nsIn K mainGlobals "NoText" = some (some (.ref C)) → PySem.W.nsIn K mainGlobals "NoAddress" = some (some (.ref D)) → PySem.W.kitOne K (.ref C) (.ref D) = some false
  i_NoText_NoWord : ∀ C D, PySem.W.nsIn K mainGlobals "NoText" = some (some (.ref C)) → PySem.W.nsIn K mainGlobals "NoWord" = some (some (.ref D)) → PySem.W.kitOne K (.ref C) (.ref D) = some false
  i_NoText_NoHands : ∀ C D, PySem.W.nsIn K mainGlobals "NoText" = some (some (.ref C)) → PySem.W.nsIn K mainGlobals "NoHands" = some (some (.ref D)) → PySem.W.kitOne K (.ref C) (.ref D) = some false
  i_NoText_NoRule : ∀ C D, PySem.W.nsIn K mainGlobals "NoText" = some (some (.ref C)) → PySem.W.nsIn K mainGlobals "NoRule" = some (some (.ref D)) → PySem.W.kitOne K (.ref C) (.ref D) = some false
  i_NoText_NoNumber : ∀ C D, PySem.W.nsIn K mainGlobals "NoText" = some (some (.ref C)) → PySem.W.nsIn K mainGlobals "NoNumber" = some (some (.ref D)) → PySem.W.kitOne K (.ref C) (.ref D) = some false
  i_NoText_NoLine : ∀ C D, PySem.W.nsIn K mainGlobals "NoText" = some (some (.ref C)) → PySem.W.nsIn K mainGlobals "NoLine" = some (some (.ref D)) → PySem.W.kitOne K (.ref C) (.ref D) = some false
  i_NoText_Sweeping : ∀ C D, PySem.W.nsIn K mainGlobals "NoText" = some (some (.ref C)) → PySem.W.nsIn K mainGlobals "Sweeping" = some (some (.ref D)) → PySem.W.kitOne K (.ref C) (.ref D) = some false
  i_NoText_NoSweep : ∀ C D, PySem.W.nsIn K mainGlobals "NoText" = some (some (.ref C)) → PySem.W.nsIn K mainGlobals "NoSweep" = some (some (.ref D)) → PySem.W.kitOne K (.ref C) (.ref D) = some false
  i_NoText_Fault : ∀ C D, PySem.W.nsIn K mainGlobals "NoText" = some (some (.ref C)) → PySem.W.nsIn K mainGlobals "Fault" = some (some (.ref D)) → PySem.W.kitOne K (.ref C) (.ref D) = some false
  i_NoText_NoRows : ∀ C D, PySem.W.nsIn K mainGlobals "NoText" = some (some (.ref C)) → PySem.W.nsIn K mainGlobals "NoRows" = some (some (.ref D)) → PySem.W.kitOne K (.ref C) (.ref D) = some false
  i_NoText_NoText : ∀ C D, PySem.W.nsIn K mainGlobals "NoText" = some (some (.ref C)) → PySem.W.nsIn K mainGlobals "NoText" = some (some (.ref D)) → PySem.W.kitOne K (.ref C) (.ref D) = some true
  i_NoText_NoDeeds : ∀ C D, PySem.W.nsIn K mainGlobals "NoText" = some (some (.ref C)) → PySem.W.nsIn K mainGlobals "NoDeeds" = some (some (.ref D)) → PySem.W.kitOne K (.ref C) (.ref D) = some false
  i_NoText_NoName : ∀ C D, PySem.W.nsIn K mainGlobals "NoText" = some (some (.ref C)) → PySem.W.nsIn K mainGlobals "NoName" = some (some (.ref D)) → PySem.W.kitOne K (.ref C) (.ref D) = some false
  i_NoText_TooMany : ∀ C D, PySem.W.nsIn K mainGlobals "NoText" = some (some (.ref C)) → PySem.W.nsIn K mainGlobals "TooMany" = some (some (.ref D)) → PySem.W.kitOne K (.ref C) (.ref D) = some false
  i_NoText_NoCompartment : ∀ C D, PySem.W.nsIn K mainGlobals "NoText" = some (some (.ref C)) → PySem.W.nsIn K mainGlobals "NoCompartment" = some (some (.ref D)) → PySem.W.kitOne K (.ref C) (.ref D) = some false
  i_NoDeeds_NoFields : ∀ C D, PySem.W.nsIn K mainGlobals "NoDeeds" = some (some (.ref C)) → PySem.W.nsIn K mainGlobals "NoFields" = some (some (.ref D)) → PySem.W.kitOne K (.ref C) (.ref D) = some false
  i_NoDeeds_NoBounds : ∀ C D, PySem.W.nsIn K mainGlobals "NoDeeds" = some (some (.ref C)) → PySem.W.nsIn K mainGlobals "NoBounds" = some (some (.ref D)) → PySem.W.kitOne K (.ref C) (.ref D) = some false
  i_NoDeeds_NoOffset : ∀ C D, PySem.W.nsIn K mainGlobals "NoDeeds" = some (some (.ref C)) → PySem.W.nsIn K mainGlobals "NoOffset" = some (some (.ref D)) → PySem.W.kitOne K (.ref C) (.ref D) = some false
  i_NoDeeds_NoAddress : ∀ C D, PySem.W.nsIn K mainGlobals "NoDeeds" = some (some (.ref C)) → PySem.W.nsIn K mainGlobals "NoAddress" = some (some (.ref D)) → PySem.W.kitOne K (.ref C) (.ref D) = some false
  i_NoDeeds_NoWord : ∀ C D, PySem.W.nsIn K mainGlobals "NoDeeds" = some (some (.ref C)) → PySem.W.nsIn K mainGlobals "NoWord" = some (some (.ref D)) → PySem.W.kitOne K (.ref C) (.ref D) = some false
  i_NoDeeds_NoHands : ∀ C D, PySem.W.nsIn K mainGlobals "NoDeeds" = some (some (.ref C)) → PySem.W.nsIn K mainGlobals "NoHands" = some (some (.ref D)) → PySem.W.kitOne K (.ref C) (.ref D) = some false
  i_NoDeeds_NoRule : ∀ C D, PySem.W.nsIn K mainGlobals "NoDeeds" = some (some (.ref C)) → PySem.W.nsIn K mainGlobals "NoRule" = some (some (.ref D)) → PySem.W.kitOne K (.ref C) (.ref D) = some false
  i_NoDeeds_NoNumber : ∀ C D, PySem.W.nsIn K mainGlobals "NoDeeds" = some (some (.ref C)) → PySem.W.nsIn K mainGlobals "NoNumber" = some (some (.ref D)) → PySem.W.kitOne K (.ref C) (.ref D) = some false
  i_NoDeeds_NoLine : ∀ C D, PySem.W.nsIn K mainGlobals "NoDeeds" = some (some (.ref C)) → PySem.W.nsIn K mainGlobals "NoLine" = some (some (.ref D)) → PySem.W.kitOne K (.ref C) (.ref D) = some false
  i_NoDeeds_Sweeping : ∀ C D, PySem.W.nsIn K mainGlobals "NoDeeds" = some (some (.ref C)) → PySem.W.nsIn K mainGlobals "Sweeping" = some (some (.ref D)) → PySem.W.kitOne K (.ref C) (.ref D) = some false
  i_NoDeeds_NoSweep : ∀ C D, PySem.W.nsIn K mainGlobals "NoDeeds" = some (some (.ref C)) → PySem.W.nsIn K mainGlobals "NoSweep" = some (some (.ref D)) → PySem.W.kitOne K (.ref C) (.ref D) = some false
  i_NoDeeds_Fault : ∀ C D, PySem.W.nsIn K mainGlobals "NoDeeds" = some (some (.ref C)) → PySem.W.nsIn K mainGlobals "Fault" = some (some (.ref D)) → PySem.W.kitOne K (.ref C) (.ref D) = some false
  i_NoDeeds_NoRows : ∀ C D, PySem.W.nsIn K mainGlobals "NoDeeds" = some (some (.ref C)) → PySem.W.nsIn K mainGlobals "NoRows" = some (some (.ref D)) → PySem.W.kitOne K (.ref C) (.ref D) = some false
  i_NoDeeds_NoText : ∀ C D, PySem.W.nsIn K mainGlobals "NoDeeds" = some (some (.ref C)) → PySem.W.nsIn K mainGlobals "NoText" = some (some (.ref D)) → PySem.W.kitOne K (.ref C) (.ref D) = some false
  i_NoDeeds_NoDeeds : ∀ C D, PySem.W.nsIn K mainGlobals "NoDeeds" = some (some (.ref C)) → PySem.W.nsIn K mainGlobals "NoDeeds" = some (some (.ref D)) → PySem.W.kitOne K (.ref C) (.ref D) = some true
  i_NoDeeds_NoName : ∀ C D, PySem.W.nsIn K mainGlobals "NoDeeds" = some (some (.ref C)) → PySem.W.nsIn K mainGlobals "NoName" = some (some (.ref D)) → PySem.W.kitOne K (.ref C) (.ref D) = some false
  i_NoDeeds_TooMany : ∀ C D, PySem.W.nsIn K mainGlobals "NoDeeds" = some (some (.ref C)) → PySem.W.nsIn K mainGlobals "TooMany" = some (some (.ref D)) → PySem.W.kitOne K (.ref C) (.ref D) = some false
  i_NoDeeds_NoCompartment : ∀ C D, PySem.W.nsIn K mainGlobals "NoDeeds" = some (some (.ref C)) → PySem.W.nsIn K mainGlobals "NoCompartment" = some (some (.ref D)) → PySem.W.kitOne K (.ref C) (.ref D) = some false
  i_NoName_NoFields : ∀ C D, PySem.W.nsIn K mainGlobals "NoName" = some (some (.ref C)) → PySem.W.nsIn K mainGlobals "NoFields" = some (some (.ref D)) → PySem.W.kitOne K (.ref C) (.ref D) = some false
  i_NoName_NoBounds : ∀ C D, PySem.W.nsIn K mainGlobals "NoName" = some (some (.ref C)) → PySem.W.nsIn K mainGlobals "NoBounds" = some (some (.ref D)) → PySem.W.kitOne K (.ref C) (.ref D) = some false
  i_NoName_NoOffset : ∀ C D, PySem.W.nsIn K mainGlobals "NoName" = some (some (.ref C)) → PySem.W.nsIn K mainGlobals "NoOffset" = some (some (.ref D)) → PySem.W.kitOne K (.ref C) (.ref D) = some false
  i_NoName_NoAddress : ∀ C D, PySem.W.nsIn K mainGlobals "NoName" = some (some (.ref C)) → PySem.W.nsIn K mainGlobals "NoAddress" = some (some (.ref D)) → PySem.W.kitOne K (.ref C) (.ref D) = some false
  i_NoName_NoWord : ∀ C D, PySem.W.nsIn K mainGlobals "NoName" = some (some (.ref C)) → PySem.W.nsIn K mainGlobals "NoWord" = some (some (.ref D)) → PySem.W.kitOne K (.ref C) (.ref D) = some false
  i_NoName_NoHands : ∀ C D, PySem.W.nsIn K mainGlobals "NoName" = some (some (.ref C)) → PySem.W.nsIn K mainGlobals "NoHands" = some (some (.ref D)) → PySem.W.kitOne K (.ref C) (.ref D) = some false
  i_NoName_NoRule : ∀ C D, PySem.W.nsIn K mainGlobals "NoName" = some (some (.ref C)) → PySem.W.nsIn K mainGlobals "NoRule" = some (some (.ref D)) → PySem.W.kitOne K (.ref C) (.ref D) = some false
  i_NoName_NoNumber : ∀ C D, PySem.W.nsIn K mainGlobals "NoName" = some (some (.ref C)) → PySem.W.nsIn K mainGlobals "NoNumber" = some (some (.ref D)) → PySem.W.kitOne K (.ref C) (.ref D) = some false
  i_NoName_NoLine : ∀ C D, PySem.W.nsIn K mainGlobals "NoName" = some (some (.ref C)) → PySem.W.nsIn K mainGlobals "NoLine" = some (some (.ref D)) → PySem.W.kitOne K (.ref C) (.ref D) = some false
  i_NoName_Sweeping : ∀ C D, PySem.W.nsIn K mainGlobals "NoName" = some (some (.ref C)) → PySem.W.nsIn K mainGlobals "Sweeping" = some (some (.ref D)) → PySem.W.kitOne K (.ref C) (.ref D) = some false
  i_NoName_NoSweep : ∀ C D, PySem.W.nsIn K mainGlobals "NoName" = some (some (.ref C)) → PySem.W.nsIn K mainGlobals "NoSweep" = some (some (.ref D)) → PySem.W.kitOne K (.ref C) (.ref D) = some false
  i_NoName_Fault : ∀ C D, PySem.W.nsIn K mainGlobals "NoName" = some (some (.ref C)) → PySem.W.nsIn K mainGlobals "Fault" = some (some (.ref D)) → PySem.W.kitOne K (.ref C) (.ref D) = some false
  i_NoName_NoRows : ∀ C D, PySem.W.nsIn K mainGlobals "NoName" = some (some (.ref C)) → PySem.W.nsIn K mainGlobals "NoRows" = some (some (.ref D)) → PySem.W.kitOne K (.ref C) (.ref D) = some false
  i_NoName_NoText : ∀ C D, PySem.W.nsIn K mainGlobals "NoName" = some (some (.ref C)) → PySem.W.nsIn K mainGlobals "NoText" = some (some (.ref D)) → PySem.W.kitOne K (.ref C) (.ref D) = some false
  i_NoName_NoDeeds : ∀ C D, PySem.W.nsIn K mainGlobals "NoName" = some (some (.ref C)) → PySem.W.nsIn K mainGlobals "NoDeeds" = some (some (.ref D)) → PySem.W.kitOne K (.ref C) (.ref D) = some false
  i_NoName_NoName : ∀ C D, PySem.W.nsIn K mainGlobals "NoName" = some (some (.ref C)) → PySem.W.nsIn K mainGlobals "NoName" = some (some (.ref D)) → PySem.W.kitOne K (.ref C) (.ref D) = some true
  i_NoName_TooMany : ∀ C D, PySem.W.nsIn K mainGlobals "NoName" = some (some (.ref C)) → PySem.W.nsIn K mainGlobals "TooMany" = some (some (.ref D)) → PySem.W.kitOne K (.ref C) (.ref D) = some false
  i_NoName_NoCompartment : ∀ C D, PySem.W.nsIn K mainGlobals "NoName" = some (some (.ref C)) → PySem.W.nsIn K mainGlobals "NoCompartment" = some (some (.ref D)) → PySem.W.kitOne K (.ref C) (.ref D) = some false
  i_TooMany_NoFields : ∀ C D, PySem.W.nsIn K mainGlobals "TooMany" = some (some (.ref C)) → PySem.W.nsIn K mainGlobals "NoFields" = some (some (.ref D)) → PySem.W.kitOne K (.ref C) (.ref D) = some false
  i_TooMany_NoBounds : ∀ C D, PySem.W.nsIn K mainGlobals "TooMany" = some (some (.ref C)) → PySem.W.nsIn K mainGlobals "NoBounds" = some (some (.ref D)) → PySem.W.kitOne K (.ref C) (.ref D) = some false
  i_TooMany_NoOffset : ∀ C D, PySem.W.nsIn K mainGlobals "TooMany" = some (some (.ref C)) → PySem.W.nsIn K mainGlobals "NoOffset" = some (some (.ref D)) → PySem.W.kitOne K (.ref C) (.ref D) = some false
  i_TooMany_NoAddress : ∀ C D, PySem.W.nsIn K mainGlobals "TooMany" = some (some (.ref C)) → PySem.W.nsIn K mainGlobals "NoAddress" = some (some (.ref D)) → PySem.W.kitOne K (.ref C) (.ref D) = some false
  i_TooMany_NoWord : ∀ C D, PySem.W.nsIn K mainGlobals "TooMany" = some (some (.ref C)) → PySem.W.nsIn K mainGlobals "NoWord" = some (some (.ref D)) → PySem.W.kitOne K (.ref C) (.ref D) = some false
  i_TooMany_NoHands : ∀ C D, PySem.W.nsIn K mainGlobals "TooMany" = some (some (.ref C)) → PySem.W.nsIn K mainGlobals "NoHands" = some (some (.ref D)) → PySem.W.kitOne K (.ref C) (.ref D) = some false
  i_TooMany_NoRule : ∀ C D, PySem.W.nsIn K mainGlobals "TooMany" = some (some (.ref C)) → PySem.W.nsIn K mainGlobals "NoRule" = some (some (.ref D)) → PySem.W.kitOne K (.ref C) (.ref D) = some false
  i_TooMany_NoNumber : ∀ C D, PySem.W.nsIn K mainGlobals "TooMany" = some (some (.ref C)) → PySem.W.nsIn K mainGlobals "NoNumber" = some (some (.ref D)) → PySem.W.kitOne K (.ref C) (.ref D) = some false
  i_TooMany_NoLine : ∀ C D, PySem.W.nsIn K mainGlobals "TooMany" = some (some (.ref C)) → PySem.W.nsIn K mainGlobals "NoLine" = some (some (.ref D)) → PySem.W.kitOne K (.ref C) (.ref D) = some false
  i_TooMany_Sweeping : ∀ C D, PySem.W.nsIn K mainGlobals "TooMany" = some (some (.ref C)) → PySem.W.nsIn K mainGlobals "Sweeping" = some (some (.ref D)) → PySem.W.kitOne K (.ref C) (.ref D) = some false
  i_TooMany_NoSweep : ∀ C D, PySem.W.nsIn K mainGlobals "TooMany" = some (some (.ref C)) → PySem.W.nsIn K mainGlobals "NoSweep" = some (some (.ref D)) → PySem.W.kitOne K (.ref C) (.ref D) = some false
  i_TooMany_Fault : ∀ C D, PySem.W.nsIn K mainGlobals "TooMany" = some (some (.ref C)) → PySem.W.nsIn K mainGlobals "Fault" = some (some (.ref D)) → PySem.W.kitOne K (.ref C) (.ref D) = some false
  i_TooMany_NoRows : ∀ C D, PySem.W.nsIn K mainGlobals "TooMany" = some (some (.ref C)) → PySem.W.nsIn K mainGlobals "NoRows" = some (some (.ref D)) → PySem.W.kitOne K (.ref C) (.ref D) = some false
  i_TooMany_NoText : ∀ C D, PySem.W.nsIn K mainGlobals "TooMany" = some (some (.ref C)) → PySem.W.nsIn K mainGlobals "NoText" = some (some (.ref D)) → PySem.W.kitOne K (.ref C) (.ref D) = some false
  i_TooMany_NoDeeds : ∀ C D, PySem.W.nsIn K mainGlobals "TooMany" = some (some (.ref C)) → PySem.W.nsIn K mainGlobals "NoDeeds" = some (some (.ref D)) → PySem.W.kitOne K (.ref C) (.ref D) = some false
  i_TooMany_NoName : ∀ C D, PySem.W.nsIn K mainGlobals "TooMany" = some (some (.ref C)) → PySem.W.nsIn K mainGlobals "NoName" = some (some (.ref D)) → PySem.W.kitOne K (.ref C) (.ref D) = some false
  i_TooMany_TooMany : ∀ C D, PySem.W.nsIn K mainGlobals "TooMany" = some (some (.ref C)) → PySem.W.nsIn K mainGlobals "TooMany" = some (some (.ref D)) → PySem.W.kitOne K (.ref C) (.ref D) = some true
  i_TooMany_NoCompartment : ∀ C D, PySem.W.nsIn K mainGlobals "TooMany" = some (some (.ref C)) → PySem.W.nsIn K mainGlobals "NoCompartment" = some (some (.ref D)) → PySem.W.kitOne K (.ref C) (.ref D) = some false
  i_NoCompartment_NoFields : ∀ C D, PySem.W.nsIn K mainGlobals "NoCompartment" = some (some (.ref C)) → PySem.W.nsIn K mainGlobals "NoFields" = some (some (.ref D)) → PySem.W.kitOne K (.ref C) (.ref D) = some false
  i_NoCompartment_NoBounds : ∀ C D, PySem.W.nsIn K mainGlobals "NoCompartment" = some (some (.ref C)) → PySem.W.nsIn K mainGlobals "NoBounds" = some (some (.ref D)) → PySem.W.kitOne K (.ref C) (.ref D) = some false
  i_NoCompartment_NoOffset : ∀ C D, PySem.W.nsIn K mainGlobals "NoCompartment" = some (some (.ref C)) → PySem.W.nsIn K mainGlobals "NoOffset" = some (some (.ref D)) → PySem.W.kitOne K (.ref C) (.ref D) = some false
  i_NoCompartment_NoAddress : ∀ C D, PySem.W.nsIn K mainGlobals "NoCompartment" = some (some (.ref C)) → PySem.W.nsIn K mainGlobals "NoAddress" = some (some (.ref D)) → PySem.W.kitOne K (.ref C) (.ref D) = some false
  i_NoCompartment_NoWord : ∀ C D, PySem.W.nsIn K mainGlobals "NoCompartment" = some (some (.ref C)) → PySem.W.nsIn K mainGlobals "NoWord" = some (some (.ref D)) → PySem.W.kitOne K (.ref C) (.ref D) = some false
  i_NoCompartment_NoHands : ∀ C D, PySem.W.nsIn K mainGlobals "NoCompartment" = some (some (.ref C)) → PySem.W.nsIn K mainGlobals "NoHands" = some (some (.ref D)) → PySem.W.kitOne K (.ref C) (.ref D) = some false
  i_NoCompartment_NoRule : ∀ C D, PySem.W.nsIn K mainGlobals "NoCompartment" = some (some (.ref C)) → PySem.W.nsIn K mainGlobals "NoRule" = some (some (.ref D)) → PySem.W.kitOne K (.ref C) (.ref D) = some false
  i_NoCompartment_NoNumber : ∀ C D, PySem.W.nsIn K mainGlobals "NoCompartment" = some (some (.ref C)) → PySem.W.nsIn K mainGlobals "NoNumber" = some (some (.ref D)) → PySem.W.kitOne K (.ref C) (.ref D) = some false
  i_NoCompartment_NoLine : ∀ C D, PySem.W.nsIn K mainGlobals "NoCompartment" = some (some (.ref C)) → PySem.W.nsIn K mainGlobals "NoLine" = some (some (.ref D)) → PySem.W.kitOne K (.ref C) (.ref D) = some false
  i_NoCompartment_Sweeping : ∀ C D, PySem.W.nsIn K mainGlobals "NoCompartment" = some (some (.ref C)) → PySem.W.nsIn K mainGlobals "Sweeping" = some (some (.ref D)) → PySem.W.kitOne K (.ref C) (.ref D) = some false
  i_NoCompartment_NoSweep : ∀ C D, PySem.W.nsIn K mainGlobals "NoCompartment" = some (some (.ref C)) → PySem.W.nsIn K mainGlobals "NoSweep" = some (some (.ref D)) → PySem.W.kitOne K (.ref C) (.ref D) = some false
  i_NoCompartment_Fault : ∀ C D, PySem.W.nsIn K mainGlobals "NoCompartment" = some (some (.ref C)) → PySem.W.nsIn K mainGlobals "Fault" = some (some (.ref D)) → PySem.W.kitOne K (.ref C) (.ref D) = some false
  i_NoCompartment_NoRows : ∀ C D, PySem.W.nsIn K mainGlobals "NoCompartment" = some (some (.ref C)) → PySem.W.nsIn K mainGlobals "NoRows" = some (some (.ref D)) → PySem.W.kitOne K (.ref C) (.ref D) = some false
  i_NoCompartment_NoText : ∀ C D, PySem.W.nsIn K mainGlobals "NoCompartment" = some (some (.ref C)) → PySem.W.nsIn K mainGlobals "NoText" = some (some (.ref D)) → PySem.W.kitOne K (.ref C) (.ref D) = some false
  i_NoCompartment_NoDeeds : ∀ C D, PySem.W.nsIn K mainGlobals "NoCompartment" = some (some (.ref C)) → PySem.W.nsIn K mainGlobals "NoDeeds" = some (some (.ref D)) → PySem.W.kitOne K (.ref C) (.ref D) = some false
  i_NoCompartment_NoName : ∀ C D, PySem.W.nsIn K mainGlobals "NoCompartment" = some (some (.ref C)) → PySem.W.nsIn K mainGlobals "NoName" = some (some (.ref D)) → PySem.W.kitOne K (.ref C) (.ref D) = some false
  i_NoCompartment_TooMany : ∀ C D, PySem.W.nsIn K mainGlobals "NoCompartment" = some (some (.ref C)) → PySem.W.nsIn K mainGlobals "TooMany" = some (some (.ref D)) → PySem.W.kitOne K (.ref C) (.ref D) = some false
  i_NoCompartment_NoCompartment : ∀ C D, PySem.W.nsIn K mainGlobals "NoCompartment" = some (some (.ref C)) → PySem.W.nsIn K mainGlobals "NoCompartment" = some (some (.ref D)) → PySem.W.kitOne K (.ref C) (.ref D) = some true
  i_NoFields_ReachError : ∀ C D, PySem.W.nsIn K mainGlobals "NoFields" = some (some (.ref C)) → PySem.W.nsIn K mainGlobals "ReachError" = some (some (.ref D)) → PySem.W.kitOne K (.ref C) (.ref D) = some true
  i_NoFields_ValueError : ∀ C, PySem.W.nsIn K mainGlobals "NoFields" = some (some (.ref C)) → PySem.W.kitOne K (.ref C) (.type "ValueError") = some true
  i_NoFields_OverflowError : ∀ C, PySem.W.nsIn K mainGlobals "NoFields" = some (some (.ref C)) → PySem.W.kitOne K (.ref C) (.type "OverflowError") = some false
  i_NoFields_KeyError : ∀ C, PySem.W.nsIn K mainGlobals "NoFields" = some (some (.ref C)) → PySem.W.kitOne K (.ref C) (.type "KeyError") = some false
  i_NoFields_LookupError : ∀ C, PySem.W.nsIn K mainGlobals "NoFields" = some (some (.ref C)) → PySem.W.kitOne K (.ref C) (.type "LookupError") = some false
  i_NoFields_RuntimeError : ∀ C, PySem.W.nsIn K mainGlobals "NoFields" = some (some (.ref C)) → PySem.W.kitOne K (.ref C) (.type "RuntimeError") = some false
  i_NoFields_IndexError : ∀ C, PySem.W.nsIn K mainGlobals "NoFields" = some (some (.ref C)) → PySem.W.kitOne K (.ref C) (.type "IndexError") = some false
  i_NoBounds_ReachError : ∀ C D, PySem.W.nsIn K mainGlobals "NoBounds" = some (some (.ref C)) → PySem.W.nsIn K mainGlobals "ReachError" = some (some (.ref D)) → PySem.W.kitOne K (.ref C) (.ref D) = some true
  i_NoBounds_ValueError : ∀ C, PySem.W.nsIn K mainGlobals "NoBounds" = some (some (.ref C)) → PySem.W.kitOne K (.ref C) (.type "ValueError") = some true
  i_NoBounds_OverflowError : ∀ C, PySem.W.nsIn K mainGlobals "NoBounds" = some (some (.ref C)) → PySem.W.kitOne K (.ref C) (.type "OverflowError") = some false
  i_NoBounds_KeyError : ∀ C, PySem.W.nsIn K mainGlobals "NoBounds" = some (some (.ref C)) → PySem.W.kitOne K (.ref C) (.type "KeyError") = some false
  i_NoBounds_LookupError : ∀ C, PySem.W.nsIn K mainGlobals "NoBounds" = some (some (.ref C)) → PySem.W.kitOne K (.ref C) (.type "LookupError") = some false
  i_NoBounds_RuntimeError : ∀ C, PySem.W.nsIn K mainGlobals "NoBounds" = some (some (.ref C)) → PySem.W.kitOne K (.ref C) (.type "RuntimeError") = some false
  i_NoBounds_IndexError : ∀ C, PySem.W.nsIn K mainGlobals "NoBounds" = some (some (.ref C)) → PySem.W.kitOne K (.ref C) (.type "IndexError") = some false
  i_NoOffset_ReachError : ∀ C D, PySem.W.nsIn K mainGlobals "NoOffset" = some (some (.ref C)) → PySem.W.nsIn K mainGlobals "ReachError" = some (some (.ref D)) → PySem.W.kitOne K (.ref C) (.ref D) = some true
  i_NoOffset_ValueError : ∀ C, PySem.W.nsIn K mainGlobals "NoOffset" = some (some (.ref C)) → PySem.W.kitOne K (.ref C) (.type "ValueError") = some true
  i_NoOffset_OverflowError : ∀ C, PySem.W.nsIn K mainGlobals "NoOffset" = some (some (.ref C)) → PySem.W.kitOne K (.ref C) (.type "OverflowError") = some false
  i_NoOffset_KeyError : ∀ C, PySem.W.nsIn K mainGlobals "NoOffset" = some (some (.ref C)) → PySem.W.kitOne K (.ref C) (.type "KeyError") = some false
  i_NoOffset_LookupError : ∀ C, PySem.W.nsIn K mainGlobals "NoOffset" = some (some (.ref C)) → PySem.W.kitOne K (.ref C) (.type "LookupError") = some false
  i_NoOffset_RuntimeError : ∀ C, PySem.W.nsIn K mainGlobals "NoOffset" = some (some (.ref C)) → PySem.W.kitOne K (.ref C) (.type "RuntimeError") = some false
  i_NoOffset_IndexError : ∀ C, PySem.W.nsIn K mainGlobals "NoOffset" = some (some (.ref C)) → PySem.W.kitOne K (.ref C) (.type "IndexError") = some false
  i_NoAddress_ReachError : ∀ C D, PySem.W.nsIn K mainGlobals "NoAddress" = some (some (.ref C)) → PySem.W.nsIn K mainGlobals "ReachError" = some (some (.ref D)) → PySem.W.kitOne K (.ref C) (.ref D) = some true
  i_NoAddress_ValueError : ∀ C, PySem.W.nsIn K mainGlobals "NoAddress" = some (some (.ref C)) → PySem.W.kitOne K (.ref C) (.type "ValueError") = some true
  i_NoAddress_OverflowError : ∀ C, PySem.W.nsIn K mainGlobals "NoAddress" = some (some (.ref C)) → PySem.W.kitOne K (.ref C) (.type "OverflowError") = some false
  i_NoAddress_KeyError : ∀ C, PySem.W.nsIn K mainGlobals "NoAddress" = some (some (.ref C)) → PySem.W.kitOne K (.ref C) (.type "KeyError") = some false
  i_NoAddress_LookupError : ∀ C, PySem.W.nsIn K mainGlobals "NoAddress" = some (some (.ref C)) → PySem.W.kitOne K (.ref C) (.type "LookupError") = some false
  i_NoAddress_RuntimeError : ∀ C, PySem.W.nsIn K mainGlobals "NoAddress" = some (some (.ref C)) → PySem.W.kitOne K (.ref C) (.type "RuntimeError") = some false
  i_NoAddress_IndexError : ∀ C, PySem.W.nsIn K mainGlobals "NoAddress" = some (some (.ref C)) → PySem.W.kitOne K (.ref C) (.type "IndexError") = some false
  i_NoWord_ReachError : ∀ C D, PySem.W.nsIn K mainGlobals "NoWord" = some (some (.ref C)) → PySem.W.nsIn K mainGlobals "ReachError" = some (some (.ref D)) → PySem.W.kitOne K (.ref C) (.ref D) = some true
  i_NoWord_ValueError : ∀ C, PySem.W.nsIn K mainGlobals "NoWord" = some (some (.ref C)) → PySem.W.kitOne K (.ref C) (.type "ValueError") = some true
  i_NoWord_OverflowError : ∀ C, PySem.W.nsIn K mainGlobals "NoWord" = some (some (.ref C)) → PySem.W.kitOne K (.ref C) (.type "OverflowError") = some false
  i_NoWord_KeyError : ∀ C, PySem.W.nsIn K mainGlobals "NoWord" = some (some (.ref C)) → PySem.W.kitOne K (.ref C) (.type "KeyError") = some false
  i_NoWord_LookupError : ∀ C, PySem.W.nsIn K mainGlobals "NoWord" = some (some (.ref C)) → PySem.W.kitOne K (.ref C) (.type "LookupError") = some false
  i_NoWord_RuntimeError : ∀ C, PySem.W.nsIn K mainGlobals "NoWord" = some (some (.ref C)) → PySem.W.kitOne K (.ref C) (.type "RuntimeError") = some false
  i_NoWord_IndexError : ∀ C, PySem.W.nsIn K mainGlobals "NoWord" = some (some (.ref C)) → PySem.W.kitOne K (.ref C) (.type "IndexError") = some false
  i_NoHands_ReachError : ∀ C D, PySem.W.nsIn K mainGlobals "NoHands" = some (some (.ref C)) → PySem.W.nsIn K mainGlobals "ReachError" = some (some (.ref D)) → PySem.W.kitOne K (.ref C) (.ref D) = some true
  i_NoHands_ValueError : ∀ C, PySem.W.nsIn K mainGlobals "NoHands" = some (some (.ref C)) → PySem.W.kitOne K (.ref C) (.type "ValueError") = some true
  i_NoHands_OverflowError : ∀ C, PySem.W.nsIn K mainGlobals "NoHands" = some (some (.ref C)) → PySem.W.kitOne K (.ref C) (.type "OverflowError") = some false
  i_NoHands_KeyError : ∀ C, PySem.W.nsIn K mainGlobals "NoHands" = some (some (.ref C)) → PySem.W.kitOne K (.ref C) (.type "KeyError") = some false
  i_NoHands_LookupError : ∀ C, PySem.W.nsIn K mainGlobals "NoHands" = some (some (.ref C)) → PySem.W.kitOne K (.ref C) (.type "LookupError") = some false
  i_NoHands_RuntimeError : ∀ C, PySem.W.nsIn K mainGlobals "NoHands" = some (some (.ref C)) → PySem.W.kitOne K (.ref C) (.type "RuntimeError") = some false
  i_NoHands_IndexError : ∀ C, PySem.W.nsIn K mainGlobals "NoHands" = some (some (.ref C)) → PySem.W.kitOne K (.ref C) (.type "IndexError") = some false
  i_NoRule_ReachError : ∀ C D, PySem.W.nsIn K mainGlobals "NoRule" = some (some (.ref C)) → PySem.W.nsIn K mainGlobals "ReachError" = some (some (.ref D)) → PySem.W.kitOne K (.ref C) (.ref D) = some true
  i_NoRule_ValueError : ∀ C, PySem.W.nsIn K mainGlobals "NoRule" = some (some (.ref C)) → PySem.W.kitOne K (.ref C) (.type "ValueError") = some true
  i_NoRule_OverflowError : ∀ C, PySem.W.nsIn K mainGlobals "NoRule" = some (some (.ref C)) → PySem.W.kitOne K (.ref C) (.type "OverflowError") = some false
  i_NoRule_KeyError : ∀ C, PySem.W.nsIn K mainGlobals "NoRule" = some (some (.ref C)) → PySem.W.kitOne K (.ref C) (.type "KeyError") = some false
  i_NoRule_LookupError : ∀ C, PySem.W.nsIn K mainGlobals "NoRule" = some (some (.ref C)) → PySem.W.kitOne K (.ref C) (.type "LookupError") = some false
  i_NoRule_RuntimeError : ∀ C, PySem.W.nsIn K mainGlobals "NoRule" = some (some (.ref C)) → PySem.W.kitOne K (.ref C) (.type "RuntimeError") = some false
  i_NoRule_IndexError : ∀ C, PySem.W.nsIn K mainGlobals "NoRule" = some (some (.ref C)) → PySem.W.kitOne K (.ref C) (.type "IndexError") = some false
  i_NoNumber_ReachError : ∀ C D, PySem.W.nsIn K mainGlobals "NoNumber" = some (some (.ref C)) → PySem.W.nsIn K mainGlobals "ReachError" = some (some (.ref D)) → PySem.W.kitOne K (.ref C) (.ref D) = some true
  i_NoNumber_ValueError : ∀ C, PySem.W.nsIn K mainGlobals "NoNumber" = some (some (.ref C)) → PySem.W.kitOne K (.ref C) (.type "ValueError") = some true
  i_NoNumber_OverflowError : ∀ C, PySem.W.nsIn K mainGlobals "NoNumber" = some (some (.ref C)) → PySem.W.kitOne K (.ref C) (.type "OverflowError") = some false
  i_NoNumber_KeyError : ∀ C, PySem.W.nsIn K mainGlobals "NoNumber" = some (some (.ref C)) → PySem.W.kitOne K (.ref C) (.type "KeyError") = some false
  i_NoNumber_LookupError : ∀ C, PySem.W.nsIn K mainGlobals "NoNumber" = some (some (.ref C)) → PySem.W.kitOne K (.ref C) (.type "LookupError") = some false
  i_NoNumber_RuntimeError : ∀ C, PySem.W.nsIn K mainGlobals "NoNumber" = some (some (.ref C)) → PySem.W.kitOne K (.ref C) (.type "RuntimeError") = some false
  i_NoNumber_IndexError : ∀ C, PySem.W.nsIn K mainGlobals "NoNumber" = some (some (.ref C)) → PySem.W.kitOne K (.ref C) (.type "IndexError") = some false
  i_NoLine_ReachError : ∀ C D, PySem.W.nsIn K mainGlobals "NoLine" = some (some (.ref C)) → PySem.W.nsIn K mainGlobals "ReachError" = some (some (.ref D)) → PySem.W.kitOne K (.ref C) (.ref D) = some true
  i_NoLine_ValueError : ∀ C, PySem.W.nsIn K mainGlobals "NoLine" = some (some (.ref C)) → PySem.W.kitOne K (.ref C) (.type "ValueError") = some true
  i_NoLine_OverflowError : ∀ C, PySem.W.nsIn K mainGlobals "NoLine" = some (some (.ref C)) → PySem.W.kitOne K (.ref C) (.type "OverflowError") = some false
  i_NoLine_KeyError : ∀ C, PySem.W.nsIn K mainGlobals "NoLine" = some (some (.ref C)) → PySem.W.kitOne K (.ref C) (.type "KeyError") = some false
  i_NoLine_LookupError : ∀ C, PySem.W.nsIn K mainGlobals "NoLine" = some (some (.ref C)) → PySem.W.kitOne K (.ref C) (.type "LookupError") = some false
  i_NoLine_RuntimeError : ∀ C, PySem.W.nsIn K mainGlobals "NoLine" = some (some (.ref C)) → PySem.W.kitOne K (.ref C) (.type "RuntimeError") = some false
  i_NoLine_IndexError : ∀ C, PySem.W.nsIn K mainGlobals "NoLine" = some (some (.ref C)) → PySem.W.kitOne K (.ref C) (.type "IndexError") = some false
  i_Sweeping_ReachError : ∀ C D, PySem.W.nsIn K mainGlobals "Sweeping" = some (some (.ref C)) → PySem.W.nsIn K mainGlobals "ReachError" = some (some (.ref D)) → PySem.W.kitOne K (.ref C) (.ref D) = some false
  i_Sweeping_ValueError : ∀ C, PySem.W.nsIn K mainGlobals "Sweeping" = some (some (.ref C)) → PySem.W.kitOne K (.ref C) (.type "ValueError") = some false
  i_Sweeping_OverflowError : ∀ C, PySem.W.nsIn K mainGlobals "Sweeping" = some (some (.ref C)) → PySem.W.kitOne K (.ref C) (.type "OverflowError") = some false
  i_Sweeping_KeyError : ∀ C, PySem.W.nsIn K mainGlobals "Sweeping" = some (some (.ref C)) → PySem.W.kitOne K (.ref C) (.type "KeyError") = some false
  i_Sweeping_LookupError : ∀ C, PySem.W.nsIn K mainGlobals "Sweeping" = some (some (.ref C)) → PySem.W.kitOne K (.ref C) (.type "LookupError") = some false
  i_Sweeping_RuntimeError : ∀ C, PySem.W.nsIn K mainGlobals "Sweeping" = some (some (.ref C)) → PySem.W.kitOne K (.ref C) (.type "RuntimeError") = some true
  i_Sweeping_IndexError : ∀ C, PySem.W.nsIn K mainGlobals "Sweeping" = some (some (.ref C)) → PySem.W.kitOne K (.ref C) (.type "IndexError") = some false
  i_NoSweep_ReachError : ∀ C D, PySem.W.nsIn K mainGlobals "NoSweep" = some (some (.ref C)) → PySem.W.nsIn K mainGlobals "ReachError" = some (some (.ref D)) → PySem.W.kitOne K (.ref C) (.ref D) = some false
  i_NoSweep_ValueError : ∀ C, PySem.W.nsIn K mainGlobals "NoSweep" = some (some (.ref C)) → PySem.W.kitOne K (.ref C) (.type "ValueError") = some false
  i_NoSweep_OverflowError : ∀ C, PySem.W.nsIn K mainGlobals "NoSweep" = some (some (.ref C)) → PySem.W.kitOne K (.ref C) (.type "OverflowError") = some false
  i_NoSweep_KeyError : ∀ C, PySem.W.nsIn K mainGlobals "NoSweep" = some (some (.ref C)) → PySem.W.kitOne K (.ref C) (.type "KeyError") = some false
  i_NoSweep_LookupError : ∀ C, PySem.W.nsIn K mainGlobals "NoSweep" = some (some (.ref C)) → PySem.W.kitOne K (.ref C) (.type "LookupError") = some true
  i_NoSweep_RuntimeError : ∀ C, PySem.W.nsIn K mainGlobals "NoSweep" = some (some (.ref C)) → PySem.W.kitOne K (.ref C) (.type "RuntimeError") = some false
  i_NoSweep_IndexError : ∀ C, PySem.W.nsIn K mainGlobals "NoSweep" = some (some (.ref C)) → PySem.W.kitOne K (.ref C) (.type "IndexError") = some false
  i_Fault_ReachError : ∀ C D, PySem.W.nsIn K mainGlobals "Fault" = some (some (.ref C)) → PySem.W.nsIn K mainGlobals "ReachError" = some (some (.ref D)) → PySem.W.kitOne K (.ref C) (.ref D) = some true
  i_Fault_ValueError : ∀ C, PySem.W.nsIn K mainGlobals "Fault" = some (some (.ref C)) → PySem.W.kitOne K (.ref C) (.type "ValueError") = some true
  i_Fault_OverflowError : ∀ C, PySem.W.nsIn K mainGlobals "Fault" = some (some (.ref C)) → PySem.W.kitOne K (.ref C) (.type "OverflowError") = some false
  i_Fault_KeyError : ∀ C, PySem.W.nsIn K mainGlobals "Fault" = some (some (.ref C)) → PySem.W.kitOne K (.ref C) (.type "KeyError") = some false
  i_Fault_LookupError : ∀ C, PySem.W.nsIn K mainGlobals "Fault" = some (some (.ref C)) → PySem.W.kitOne K (.ref C) (.type "LookupError") = some false
  i_Fault_RuntimeError : ∀ C, PySem.W.nsIn K mainGlobals "Fault" = some (some (.ref C)) → PySem.W.kitOne K (.ref C) (.type "RuntimeError") = some false
  i_Fault_IndexError : ∀ C, PySem.W.nsIn K mainGlobals "Fault" = some (some (.ref C)) → PySem.W.kitOne K (.ref C) (.type "IndexError") = some false
  i_NoRows_ReachError : ∀ C D, PySem.W.nsIn K mainGlobals "NoRows" = some (some (.ref C)) → PySem.W.nsIn K mainGlobals "ReachError" = some (some (.ref D)) → PySem.W.kitOne K (.ref C) (.ref D) = some true
  i_NoRows_ValueError : ∀ C, PySem.W.nsIn K mainGlobals "NoRows" = some (some (.ref C)) → PySem.W.kitOne K (.ref C) (.type "ValueError") = some true
  i_NoRows_OverflowError : ∀ C, PySem.W.nsIn K mainGlobals "NoRows" = some (some (.ref C)) → PySem.W.kitOne K (.ref C) (.type "OverflowError") = some false
  i_NoRows_KeyError : ∀ C, PySem.W.nsIn K mainGlobals "NoRows" = some (some (.ref C)) → PySem.W.kitOne K (.ref C) (.type "KeyError") = some false
  i_NoRows_LookupError : ∀ C, PySem.W.nsIn K mainGlobals "NoRows" = some (some (.ref C)) → PySem.W.kitOne K (.ref C) (.type "LookupError") = some false
  i_NoRows_RuntimeError : ∀ C, PySem.W.nsIn K mainGlobals "NoRows" = some (some (.ref C)) → PySem.W.kitOne K (.ref C) (.type "RuntimeError") = some false
  i_NoRows_IndexError : ∀ C, PySem.W.nsIn K mainGlobals "NoRows" = some (some (.ref C)) → PySem.W.kitOne K (.ref C) (.type "IndexError") = some false
  i_NoText_ReachError : ∀ C D, PySem.W.nsIn K mainGlobals "NoText" = some (some (.ref C)) → PySem.W.nsIn K mainGlobals "ReachError" = some (some (.ref D)) → PySem.W.kitOne K (.ref C) (.ref D) = some true
  i_NoText_ValueError : ∀ C, PySem.W.nsIn K mainGlobals "NoText" = some (some (.ref C)) → PySem.W.kitOne K (.ref C) (.type "ValueError") = some true
  i_NoText_OverflowError : ∀ C, PySem.W.nsIn K mainGlobals "NoText" = some (some (.ref C)) → PySem.W.kitOne K (.ref C) (.type "OverflowError") = some false
  i_NoText_KeyError : ∀ C, PySem.W.nsIn K mainGlobals "NoText" = some (some (.ref C)) → PySem.W.kitOne K (.ref C) (.type "KeyError") = some false
  i_NoText_LookupError : ∀ C, PySem.W.nsIn K mainGlobals "NoText" = some (some (.ref C)) → PySem.W.kitOne K (.ref C) (.type "LookupError") = some false
  i_NoText_RuntimeError : ∀ C, PySem.W.nsIn K mainGlobals "NoText" = some (some (.ref C)) → PySem.W.kitOne K (.ref C) (.type "RuntimeError") = some false
  i_NoText_IndexError : ∀ C, PySem.W.nsIn K mainGlobals "NoText" = some (some (.ref C)) → PySem.W.kitOne K (.ref C) (.type "IndexError") = some false
  i_NoDeeds_ReachError : ∀ C D, PySem.W.nsIn K mainGlobals "NoDeeds" = some (some (.ref C)) → PySem.W.nsIn K mainGlobals "ReachError" = some (some (.ref D)) → PySem.W.kitOne K (.ref C) (.ref D) = some true
  i_NoDeeds_ValueError : ∀ C, PySem.W.nsIn K mainGlobals "NoDeeds" = some (some (.ref C)) → PySem.W.kitOne K (.ref C) (.type "ValueError") = some true
  i_NoDeeds_OverflowError : ∀ C, PySem.W.nsIn K mainGlobals "NoDeeds" = some (some (.ref C)) → PySem.W.kitOne K (.ref C) (.type "OverflowError") = some false
  i_NoDeeds_KeyError : ∀ C, PySem.W.nsIn K mainGlobals "NoDeeds" = some (some (.ref C)) → PySem.W.kitOne K (.ref C) (.type "KeyError") = some false
  i_NoDeeds_LookupError : ∀ C, PySem.W.nsIn K mainGlobals "NoDeeds" = some (some (.ref C)) → PySem.W.kitOne K (.ref C) (.type "LookupError") = some false
  i_NoDeeds_RuntimeError : ∀ C, PySem.W.nsIn K mainGlobals "NoDeeds" = some (some (.ref C)) → PySem.W.kitOne K (.ref C) (.type "RuntimeError") = some false
  i_NoDeeds_IndexError : ∀ C, PySem.W.nsIn K mainGlobals "NoDeeds" = some (some (.ref C)) → PySem.W.kitOne K (.ref C) (.type "IndexError") = some false
  i_NoName_ReachError : ∀ C D, PySem.W.nsIn K mainGlobals "NoName" = some (some (.ref C)) → PySem.W.nsIn K mainGlobals "ReachError" = some (some (.ref D)) → PySem.W.kitOne K (.ref C) (.ref D) = some false
  i_NoName_ValueError : ∀ C, PySem.W.nsIn K mainGlobals "NoName" = some (some (.ref C)) → PySem.W.kitOne K (.ref C) (.type "ValueError") = some false
  i_NoName_OverflowError : ∀ C, PySem.W.nsIn K mainGlobals "NoName" = some (some (.ref C)) → PySem.W.kitOne K (.ref C) (.type "OverflowError") = some false
  i_NoName_KeyError : ∀ C, PySem.W.nsIn K mainGlobals "NoName" = some (some (.ref C)) → PySem.W.kitOne K (.ref C) (.type "KeyError") = some true
  i_NoName_LookupError : ∀ C, PySem.W.nsIn K mainGlobals "NoName" = some (some (.ref C)) → PySem.W.kitOne K (.ref C) (.type "LookupError") = some true
  i_NoName_RuntimeError : ∀ C, PySem.W.nsIn K mainGlobals "NoName" = some (some (.ref C)) → PySem.W.kitOne K (.ref C) (.type "RuntimeError") = some false
  i_NoName_IndexError : ∀ C, PySem.W.nsIn K mainGlobals "NoName" = some (some (.ref C)) → PySem.W.kitOne K (.ref C) (.type "IndexError") = some false
  i_TooMany_ReachError : ∀ C D, PySem.W.nsIn K mainGlobals "TooMany" = some (some (.ref C)) → PySem.W.nsIn K mainGlobals "ReachError" = some (some (.ref D)) → PySem.W.kitOne K (.ref C) (.ref D) = some false
  i_TooMany_ValueError : ∀ C, PySem.W.nsIn K mainGlobals "TooMany" = some (some (.ref C)) → PySem.W.kitOne K (.ref C) (.type "ValueError") = some false
  i_TooMany_OverflowError : ∀ C, PySem.W.nsIn K mainGlobals "TooMany" = some (some (.ref C)) → PySem.W.kitOne K (.ref C) (.type "OverflowError") = some true
  i_TooMany_KeyError : ∀ C, PySem.W.nsIn K mainGlobals "TooMany" = some (some (.ref C)) → PySem.W.kitOne K (.ref C) (.type "KeyError") = some false
  i_TooMany_LookupError : ∀ C, PySem.W.nsIn K mainGlobals "TooMany" = some (some (.ref C)) → PySem.W.kitOne K (.ref C) (.type "LookupError") = some false
  i_TooMany_RuntimeError : ∀ C, PySem.W.nsIn K mainGlobals "TooMany" = some (some (.ref C)) → PySem.W.kitOne K (.ref C) (.type "RuntimeError") = some false
  i_TooMany_IndexError : ∀ C, PySem.W.nsIn K mainGlobals "TooMany" = some (some (.ref C)) → PySem.W.kitOne K (.ref C) (.type "IndexError") = some false
  i_NoCompartment_ReachError : ∀ C D, PySem.W.nsIn K mainGlobals "NoCompartment" = some (some (.ref C)) → PySem.W.nsIn K mainGlobals "ReachError" = some (some (.ref D)) → PySem.W.kitOne K (.ref C) (.ref D) = some true
  i_NoCompartment_ValueError : ∀ C, PySem.W.nsIn K mainGlobals "NoCompartment" = some (some (.ref C)) → PySem.W.kitOne K (.ref C) (.type "ValueError") = some true
  i_NoCompartment_OverflowError : ∀ C, PySem.W.nsIn K mainGlobals "NoCompartment" = some (some (.ref C)) → PySem.W.kitOne K (.ref C) (.type "OverflowError") = some false
  i_NoCompartment_KeyError : ∀ C, PySem.W.nsIn K mainGlobals "NoCompartment" = some (some (.ref C)) → PySem.W.kitOne K (.ref C) (.type "KeyError") = some false
  i_NoCompartment_LookupError : ∀ C, PySem.W.nsIn K mainGlobals "NoCompartment" = some (some (.ref C)) → PySem.W.kitOne K (.ref C) (.type "LookupError") = some false
  i_NoCompartment_RuntimeError : ∀ C, PySem.W.nsIn K mainGlobals "NoCompartment" = some (some (.ref C)) → PySem.W.kitOne K (.ref C) (.type "RuntimeError") = some false
  i_NoCompartment_IndexError : ∀ C, PySem.W.nsIn K mainGlobals "NoCompartment" = some (some (.ref C)) → PySem.W.kitOne K (.ref C) (.type "IndexError") = some false
  f_Fault_word : ∀ C, PySem.W.nsIn K mainGlobals "Fault" = some (some (.ref C)) → PySem.W.findIn K (.ref C) "word" = some none
  f_NoRows_number : ∀ C, PySem.W.nsIn K mainGlobals "NoRows" = some (some (.ref C)) → PySem.W.findIn K (.ref C) "number" = some none
  f_NoText_number : ∀ C, PySem.W.nsIn K mainGlobals "NoText" = some (some (.ref C)) → PySem.W.findIn K (.ref C) "number" = some none
  f_NoDeeds_number : ∀ C, PySem.W.nsIn K mainGlobals "NoDeeds" = some (some (.ref C)) → PySem.W.findIn K (.ref C) "number" = some none
  f_NoName_name : ∀ C, PySem.W.nsIn K mainGlobals "NoName" = some (some (.ref C)) → PySem.W.findIn K (.ref C) "name" = some none
  f_TooMany_size : ∀ C, PySem.W.nsIn K mainGlobals "TooMany" = some (some (.ref C)) → PySem.W.findIn K (.ref C) "size" = some none
  f_NoCompartment_number : ∀ C, PySem.W.nsIn K mainGlobals "NoCompartment" = some (some (.ref C)) → PySem.W.findIn K (.ref C) "number" = some none
  f_NoCompartment_part : ∀ C, PySem.W.nsIn K mainGlobals "NoCompartment" = some (some (.ref C)) → PySem.W.findIn K (.ref C) "part" = some none
section
variable {P : Program} {w : World} {K : PySem.W.Frag} {mg : Str → Option Value} {base : Heap}
theorem oki_Fault {f C : Addr} {fd : FuncData} (F : Fun K "__init__" "Fault.__init__" si_Fault f fd) (T : OexG K C) (hno : PySem.W.findIn K (.ref C) "word" = some none) : FnOk P w K mg base CX0 1 f fd ["self", "word"] (spErr C "word") := by
  refine F.ok sci_Fault (fun vs H Q E h => ?_) (fun cdv A outer s H vs Q E hr h => ?_)
  · obtain ⟨a, v, rfl, h1, q⟩ := h; rfl
  · obtain ⟨a, v, rfl, h1, q⟩ := h
    refine ⟨_, pss_one (ps_ostG (pv 0) (pv 1)), ?_⟩
    exact ⟨_, rfl, _, rfl, a, C, rfl, T, hno, .inl ⟨h1, fun dx h2 h3 => q dx h2 h3⟩⟩
theorem oki_NoAddress {f C : Addr} {fd : FuncData} (F : Fun K "__init__" "NoAddress.__init__" si_NoAddress f fd) (T : OexG K C) (hno : PySem.W.findIn K (.ref C) "text" = some none) : FnOk P w K mg base CX0 1 f fd ["self", "text"] (spErr C "text") := by
  refine F.ok sci_NoAddress (fun vs H Q E h => ?_) (fun cdv A outer s H vs Q E hr h => ?_)
  · obtain ⟨a, v, rfl, h1, q⟩ := h; rfl
  · obtain ⟨a, v, rfl, h1, q⟩ := h
    refine ⟨_, pss_one (ps_ostG (pv 0) (pv 1)), ?_⟩
    exact ⟨_, rfl, _, rfl, a, C, rfl, T, hno, .inl ⟨h1, fun dx h2 h3 => q dx h2 h3⟩⟩
theorem oki_NoBounds {f C : Addr} {fd : FuncData} (F : Fun K "__init__" "NoBounds.__init__" si_NoBounds f fd) (T : OexG K C) (hno : PySem.W.findIn K (.ref C) "text" = some none) : FnOk P w K mg base CX0 1 f fd ["self", "text"] (spErr C "text") := by
  refine F.ok sci_NoBounds (fun vs H Q E h => ?_) (fun cdv A outer s H vs Q E hr h => ?_)
  · obtain ⟨a, v, rfl, h1, q⟩ := h; rfl
  · obtain ⟨a, v, rfl, h1, q⟩ := h
    refine ⟨_, pss_one (ps_ostG (pv 0) (pv 1)), ?_⟩
    exact ⟨_, rfl, _, rfl, a, C, rfl, T, hno, .inl ⟨h1, fun dx h2 h3 => q dx h2 h3⟩⟩
theorem oki_NoCompartment {f C : Addr} {fd : FuncData} (F : Fun K "__init__" "NoCompartment.__init__" si_NoCompartment f fd) (T : OexG K C) (hno : PySem.W.findIn K (.ref C) "number" = some none) (hn2 : PySem.W.findIn K (.ref C) "part" = some none) : FnOk P w K mg base CX0 1 f fd ["self", "number", "part"] (spErr2 C "number" "part") := by
  refine F.ok sci_NoCompartment (fun vs H Q E h => ?_) (fun cdv A outer s H vs Q E hr h => ?_)
  · obtain ⟨a, v, u, rfl, h1, q⟩ := h; rfl
  · obtain ⟨a, v, u, rfl, h1, q⟩ := h
    refine ⟨_, pss_cons (ps_ostG (pv 0) (pv 1)) (pss_one (ps_ostG (pv 0) (pv 2))), ?_⟩
    refine ⟨_, rfl, _, rfl, a, C, rfl, T, hno, .inl ⟨h1, fun dx h2 h3 => ?_⟩⟩
    exact ⟨_, rfl, _, rfl, a, C, rfl, T, hn2, .inr ⟨dx, _, upd_same, (upd_ne h3).trans upd_same, (by decide : 1 ≤ 900), q dx h2 h3⟩⟩
theorem oki_NoDeeds {f C : Addr} {fd : FuncData} (F : Fun K "__init__" "NoDeeds.__init__" si_NoDeeds f fd) (T : OexG K C) (hno : PySem.W.findIn K (.ref C) "number" = some none) : FnOk P w K mg base CX0 1 f fd ["self", "number"] (spErr C "number") := by
  refine F.ok sci_NoDeeds (fun vs H Q E h => ?_) (fun cdv A outer s H vs Q E hr h => ?_)
  · obtain ⟨a, v, rfl, h1, q⟩ := h; rfl
  · obtain ⟨a, v, rfl, h1, q⟩ := h
    refine ⟨_, pss_one (ps_ostG (pv 0) (pv 1)), ?_⟩
    exact ⟨_, rfl, _, rfl, a, C, rfl, T, hno, .inl ⟨h1, fun dx h2 h3 => q dx h2 h3⟩⟩
theorem oki_NoFields {f C : Addr} {fd : FuncData} (F : Fun K "__init__" "NoFields.__init__" si_NoFields f fd) (T : OexG K C) (hno : PySem.W.findIn K (.ref C) "text" = some none) : FnOk P w K mg base CX0 1 f fd ["self", "text"] (spErr C "text") := by
  refine F.ok sci_NoFields (fun vs H Q E h => ?_) (fun cdv A outer s H vs Q E hr h => ?_)
  · obtain ⟨a, v, rfl, h1, q⟩ := h; rfl
  · obtain ⟨a, v, rfl, h1, q⟩ := h
    refine ⟨_, pss_one (ps_ostG (pv 0) (pv 1)), ?_⟩
    exact ⟨_, rfl, _, rfl, a, C, rfl, T, hno, .inl ⟨h1, fun dx h2 h3 => q dx h2 h3⟩⟩
theorem oki_NoHands {f C : Addr} {fd : FuncData} (F : Fun K "__init__" "NoHands.__init__" si_NoHands f fd) (T : OexG K C) (hno : PySem.W.findIn K (.ref C) "text" = some none) : FnOk P w K mg base CX0 1 f fd ["self", "text"] (spErr C "text") := by
  refine F.ok sci_NoHands (fun vs H Q E h => ?_) (fun cdv A outer s H vs Q E hr h => ?_)
  · obtain ⟨a, v, rfl, h1, q⟩ := h; rfl
  · obtain ⟨a, v, rfl, h1, q⟩ := h
    refine ⟨_, pss_one (ps_ostG (pv 0) (pv 1)), ?_⟩
    exact ⟨_, rfl, _, rfl, a, C, rfl, T, hno, .inl ⟨h1, fun dx h2 h3 => q dx h2 h3⟩⟩
theorem oki_NoLine {f C : Addr} {fd : FuncData} (F : Fun K "__init__" "NoLine.__init__" si_NoLine f fd) (T : OexG K C) (hno : PySem.W.findIn K (.ref C) "text" = some none) : FnOk P w K mg base CX0 1 f fd ["self", "text"] (spErr C "text") := by
  refine F.ok sci_NoLine (fun vs H Q E h => ?_) (fun cdv A outer s H vs Q E hr h => ?_)
  · obtain ⟨a, v, rfl, h1, q⟩ := h; rfl
  · obtain ⟨a, v, rfl, h1, q⟩ := h
    refine ⟨_, pss_one (ps_ostG (pv 0) (pv 1)), ?_⟩
    exact ⟨_, rfl, _, rfl, a, C, rfl, T, hno, .inl ⟨h1, fun dx h2 h3 => q dx h2 h3⟩⟩
theorem oki_NoName {f C : Addr} {fd : FuncData} (F : Fun K "__init__" "NoName.__init__" si_NoName f fd) (T : OexG K C) (hno : PySem.W.findIn K (.ref C) "name" = some none) : FnOk P w K mg base CX0 1 f fd ["self", "name"] (spErr C "name") := by
  refine F.ok sci_NoName (fun vs H Q E h => ?_) (fun cdv A outer s H vs Q E hr h => ?_)
  · obtain ⟨a, v, rfl, h1, q⟩ := h; rfl
  · obtain ⟨a, v, rfl, h1, q⟩ := h
    refine ⟨_, pss_one (ps_ostG (pv 0) (pv 1)), ?_⟩
    exact ⟨_, rfl, _, rfl, a, C, rfl, T, hno, .inl ⟨h1, fun dx h2 h3 => q dx h2 h3⟩⟩
theorem oki_NoNumber {f C : Addr} {fd : FuncData} (F : Fun K "__init__" "NoNumber.__init__" si_NoNumber f fd) (T : OexG K C) (hno : PySem.W.findIn K (.ref C) "text" = some none) : FnOk P w K mg base CX0 1 f fd ["self", "text"] (spErr C "text") := by
  refine F.ok sci_NoNumber (fun vs H Q E h => ?_) (fun cdv A outer s H vs Q E hr h => ?_)
  · obtain ⟨a, v, rfl, h1, q⟩ := h; rfl
  · obtain ⟨a, v, rfl, h1, q⟩ := h
    refine ⟨_, pss_one (ps_ostG (pv 0) (pv 1)), ?_⟩
    exact ⟨_, rfl, _, rfl, a, C, rfl, T, hno, .inl ⟨h1, fun dx h2 h3 => q dx h2 h3⟩⟩
theorem oki_NoOffset {f C : Addr} {fd : FuncData} (F : Fun K "__init__" "NoOffset.__init__" si_NoOffset f fd) (T : OexG K C) (hno : PySem.W.findIn K (.ref C) "text" = some none) : FnOk P w K mg base CX0 1 f fd ["self", "text"] (spErr C "text") := by
  refine F.ok sci_NoOffset (fun vs H Q E h => ?_) (fun cdv A outer s H vs Q E hr h => ?_)
  · obtain ⟨a, v, rfl, h1, q⟩ := h; rfl
  · obtain ⟨a, v, rfl, h1, q⟩ := h
    refine ⟨_, pss_one (ps_ostG (pv 0) (pv 1)), ?_⟩
    exact ⟨_, rfl, _, rfl, a, C, rfl, T, hno, .inl ⟨h1, fun dx h2 h3 => q dx h2 h3⟩⟩
theorem oki_NoRows {f C : Addr} {fd : FuncData} (F : Fun K "__init__" "NoRows.__init__" si_NoRows f fd) (T : OexG K C) (hno : PySem.W.findIn K (.ref C) "number" = some none) : FnOk P w K mg base CX0 1 f fd ["self", "number"] (spErr C "number") := by
  refine F.ok sci_NoRows (fun vs H Q E h => ?_) (fun cdv A outer s H vs Q E hr h => ?_)
  · obtain ⟨a, v, rfl, h1, q⟩ := h; rfl
  · obtain ⟨a, v, rfl, h1, q⟩ := h
    refine ⟨_, pss_one (ps_ostG (pv 0) (pv 1)), ?_⟩
    exact ⟨_, rfl, _, rfl, a, C, rfl, T, hno, .inl ⟨h1, fun dx h2 h3 => q dx h2 h3⟩⟩
theorem oki_NoRule {f C : Addr} {fd : FuncData} (F : Fun K "__init__" "NoRule.__init__" si_NoRule f fd) (T : OexG K C) (hno : PySem.W.findIn K (.ref C) "text" = some none) : FnOk P w K mg base CX0 1 f fd ["self", "text"] (spErr C "text") := by
  refine F.ok sci_NoRule (fun vs H Q E h => ?_) (fun cdv A outer s H vs Q E hr h => ?_)
  · obtain ⟨a, v, rfl, h1, q⟩ := h; rfl
  · obtain ⟨a, v, rfl, h1, q⟩ := h
    refine ⟨_, pss_one (ps_ostG (pv 0) (pv 1)), ?_⟩
    exact ⟨_, rfl, _, rfl, a, C, rfl, T, hno, .inl ⟨h1, fun dx h2 h3 => q dx h2 h3⟩⟩
theorem oki_NoSweep {f C : Addr} {fd : FuncData} (F : Fun K "__init__" "NoSweep.__init__" si_NoSweep f fd) (T : OexG K C) (hno : PySem.W.findIn K (.ref C) "text" = some none) : FnOk P w K mg base CX0 1 f fd ["self", "text"] (spErr C "text") := by
  refine F.ok sci_NoSweep (fun vs H Q E h => ?_) (fun cdv A outer s H vs Q E hr h => ?_)
  · obtain ⟨a, v, rfl, h1, q⟩ := h; rfl
  · obtain ⟨a, v, rfl, h1, q⟩ := h
    refine ⟨_, pss_one (ps_ostG (pv 0) (pv 1)), ?_⟩
    exact ⟨_, rfl, _, rfl, a, C, rfl, T, hno, .inl ⟨h1, fun dx h2 h3 => q dx h2 h3⟩⟩
theorem oki_NoText {f C : Addr} {fd : FuncData} (F : Fun K "__init__" "NoText.__init__" si_NoText f fd) (T : OexG K C) (hno : PySem.W.findIn K (.ref C) "number" = some none) : FnOk P w K mg base CX0 1 f fd ["self", "number"] (spErr C "number") := by
  refine F.ok sci_NoText (fun vs H Q E h => ?_) (fun cdv A outer s H vs Q E hr h => ?_)
  · obtain ⟨a, v, rfl, h1, q⟩ := h; rfl
  · obtain ⟨a, v, rfl, h1, q⟩ := h
    refine ⟨_, pss_one (ps_ostG (pv 0) (pv 1)), ?_⟩
    exact ⟨_, rfl, _, rfl, a, C, rfl, T, hno, .inl ⟨h1, fun dx h2 h3 => q dx h2 h3⟩⟩
theorem oki_NoWord {f C : Addr} {fd : FuncData} (F : Fun K "__init__" "NoWord.__init__" si_NoWord f fd) (T : OexG K C) (hno : PySem.W.findIn K (.ref C) "text" = some none) : FnOk P w K mg base CX0 1 f fd ["self", "text"] (spErr C "text") := by
  refine F.ok sci_NoWord (fun vs H Q E h => ?_) (fun cdv A outer s H vs Q E hr h => ?_)
  · obtain ⟨a, v, rfl, h1, q⟩ := h; rfl
  · obtain ⟨a, v, rfl, h1, q⟩ := h
    refine ⟨_, pss_one (ps_ostG (pv 0) (pv 1)), ?_⟩
    exact ⟨_, rfl, _, rfl, a, C, rfl, T, hno, .inl ⟨h1, fun dx h2 h3 => q dx h2 h3⟩⟩
theorem oki_Sweeping {f C : Addr} {fd : FuncData} (F : Fun K "__init__" "Sweeping.__init__" si_Sweeping f fd) (T : OexG K C) (hno : PySem.W.findIn K (.ref C) "text" = some none) : FnOk P w K mg base CX0 1 f fd ["self", "text"] (spErr C "text") := by
  refine F.ok sci_Sweeping (fun vs H Q E h => ?_) (fun cdv A outer s H vs Q E hr h => ?_)
  · obtain ⟨a, v, rfl, h1, q⟩ := h; rfl
  · obtain ⟨a, v, rfl, h1, q⟩ := h
    refine ⟨_, pss_one (ps_ostG (pv 0) (pv 1)), ?_⟩
    exact ⟨_, rfl, _, rfl, a, C, rfl, T, hno, .inl ⟨h1, fun dx h2 h3 => q dx h2 h3⟩⟩
theorem oki_TooMany {f C : Addr} {fd : FuncData} (F : Fun K "__init__" "TooMany.__init__" si_TooMany f fd) (T : OexG K C) (hno : PySem.W.findIn K (.ref C) "size" = some none) : FnOk P w K mg base CX0 1 f fd ["self", "size"] (spErr C "size") := by
  refine F.ok sci_TooMany (fun vs H Q E h => ?_) (fun cdv A outer s H vs Q E hr h => ?_)
  · obtain ⟨a, v, rfl, h1, q⟩ := h; rfl
  · obtain ⟨a, v, rfl, h1, q⟩ := h
    refine ⟨_, pss_one (ps_ostG (pv 0) (pv 1)), ?_⟩
    exact ⟨_, rfl, _, rfl, a, C, rfl, T, hno, .inl ⟨h1, fun dx h2 h3 => q dx h2 h3⟩⟩
def sp__law_take (K : PySem.W.Frag) : Sp := fun vs H Q _ => ∃ (a : Addr) (x y m : Int), vs = [.ref a, .int m] ∧ Pool H a x y ∧ 0 < m ∧ m < 1073741824 ∧ ∀ r x1 y1, 0 ≤ r → r < m → Pool (upd H a (.lst [.int x1, .int y1])) a x1 y1 → Q (.int r) (upd H a (.lst [.int x1, .int y1]))
theorem ok__law_take {f : Addr} {fd : FuncData} (F : Fun K "_law_take" "_law_take" s__law_take f fd) (T : Txt K w mg) : FnOk P w K mg base CX0 1 f fd ["_law_pool_here", "_law_many"] (sp__law_take K) := by
  refine F.ok sc__law_take (fun vs H Q E h => ?_) (fun cdv A outer s H vs Q E hr h => ?_)
  · obtain ⟨a, x, y, m, rfl, hp, hm, hm2, q⟩ := h; rfl
  · obtain ⟨a, x, y, m, rfl, hp, hm, hm2, q⟩ := h
    refine ⟨_, (pss_cons (ps_if (pt_cmpR op_gt (pe_ix (r := rIxL K) ix_list (pv 0) pe_int (fun _ _ => rfl)) pe_int (nomark _)) (pss_cons (ps_set (i := 2) sc__law_take.nd rfl (.inl rfl) (pe_op op_mod (pe_ix (r := rIxL K) ix_list (pv 0) pe_int (fun _ _ => rfl)) (pv 1)))
      (pss_cons (ps_asg (pe_op op_fdiv (pe_ix (r := rIxL K) ix_list (pv 0) pe_int (fun _ _ => rfl)) (pv 1)) (pg_sub (pv 0) pe_int set_list))
      (pss_one (ps_ret (pv 2))))) pss_nil)
      (pss_cons (ps_asg (pe_op op_mod (pe_op op_add (pe_op op_mul (pe_ix (r := rIxL K) ix_list (pv 0) pe_int (fun _ _ => rfl)) pe_int) pe_int) pe_int) (pg_sub (pv 0) pe_int set_list))
      (pss_one (ps_ret (pe_op op_mod (pe_op op_fdiv (pe_op op_mod (pe_op op_mul (pe_ix (r := rIxL K) ix_list (pv 0) pe_int (fun _ _ => rfl)) (pe_ix (r := rIxL K) ix_list (pv 0) pe_int (fun _ _ => rfl))) pe_int) pe_int) (pv 1)))))), ?_⟩
    obtain ⟨hp, x0, y0, y1⟩ := hp
    refine ⟨_, rfl, a, _, 0, _, rfl, rfl, .of hp, atI_nat (j := 0) rfl, _, _, rfl, rfl, _, rfl, ifd (fun c => ?_) (fun c => ?_)⟩
    · refine ⟨_, rfl, a, _, 0, _, rfl, rfl, .of hp, atI_nat (j := 0) rfl, _, rfl, _, _, rfl, rfl, hm, ?_⟩
      refine ⟨_, rfl, a, _, 0, _, rfl, rfl, .of hp, atI_nat (j := 0) rfl, _, rfl, _, _, rfl, rfl, ⟨hm, hm2⟩, ?_⟩
      refine ⟨_, rfl, a, _, 0, 0, rfl, rfl, hp, rfl, ?_⟩
      refine ⟨_, rfl, q (x % m) (x / m) y (Int.emod_nonneg _ (by omega)) (Int.emod_lt_of_pos _ hm) ⟨upd_same, Int.ediv_nonneg x0 (by omega), y0, y1⟩⟩
    · refine ⟨_, rfl, a, _, 1, _, rfl, rfl, .of hp, atI_nat (j := 1) rfl, _, _, rfl, rfl, .inr ⟨by decide, by decide⟩, _, _, rfl, rfl, _, _, rfl, rfl, (by show (0 : Int) < _; decide), ?_⟩
      refine ⟨_, rfl, a, _, 1, 1, rfl, rfl, hp, rfl, ?_⟩
      have u1 : 0 ≤ (y * 48271 + 11) % 2147483647 := Int.emod_nonneg _ (by decide)
      have u2 : (y * 48271 + 11) % 2147483647 < 2147483647 := Int.emod_lt_of_pos _ (by decide)
      refine ⟨_, rfl, a, _, 1, _, rfl, rfl, .of upd_same, atI_nat (j := 1) rfl, _, rfl, a, _, 1, _, rfl, rfl, .of upd_same, atI_nat (j := 1) rfl, _, _, rfl, rfl, .inl ⟨by omega, by omega⟩, _, _, rfl, rfl, (by show (0 : Int) < _; decide), _, _, rfl, rfl, ⟨by decide, by decide⟩, _, rfl, _, _, rfl, rfl, hm, ?_⟩
      exact q _ x ((y * 48271 + 11) % 2147483647) (Int.emod_nonneg _ (by omega)) (Int.emod_lt_of_pos _ hm) ⟨upd_same, x0, u1, u2⟩
def sp__law_pool (K : PySem.W.Frag) : Sp := fun vs H Q _ => ∃ (a : Addr) (ns : List Int) (k : Nat), vs = [.ref a, .int k] ∧ SqL K H a (ns.map V.int) ∧ ns.length ≤ 63 ∧ k ≤ 63 ∧ ∀ x y p H', Same H H' → H p = none → Pool H' p x y → Q (.ref p) H'
theorem ok__law_pool {f : Addr} {fd : FuncData} (F : Fun K "_law_pool" "_law_pool" s__law_pool f fd) (T : Txt K w mg) : FnOk P w K mg base CX0 1 f fd ["_law_script", "_law_k"] (sp__law_pool K) := by
  refine F.ok sc__law_pool (fun vs H Q E h => ?_) (fun cdv A outer s H vs Q E hr h => ?_)
  · obtain ⟨a, ns, k, rfl, hS, hlen, hk, q⟩ := h; rfl
  · obtain ⟨a, ns, k, rfl, hS, hlen, hk, q⟩ := h
    refine ⟨_, (pss_cons (ps_set (i := 2) sc__law_pool.nd rfl (.inl rfl) (pe_op op_add (pe_op op_mul pe_int (pe_callB (cr_sum rfl) (by rfl) T.z_sum (by decide +kernel) (pa_cons (pe_slice sl_list (pv 0) po_none (po_some pe_int)) pa_nil))) (pv 1)))
      (pss_cons (ps_if (pt_cmpR op_lt (pv 1) (pe_callB call_len_seq (by rfl) T.z_len (by decide +kernel) (pa_cons (pv 0) pa_nil)) (nomark _)) (pss_one (ps_set (i := 2) sc__law_pool.nd rfl (.inl rfl) (pe_ix (r := rIxL K) ix_list (pv 0) (pv 1) (fun _ _ => rfl)))) pss_nil)
      (pss_cons (ps_set (i := 3) sc__law_pool.nd rfl (.inl rfl) (pe_callB call_abs (by rfl) T.z_abs (by decide +kernel) (pa_cons (pv 2) pa_nil)))
      (pss_cons (ps_set (i := 4) sc__law_pool.nd rfl (.inl rfl) (pe_op op_mod (pe_op op_mul (pe_op op_add (pe_op op_add (pe_op op_add (pe_op op_mod (pv 3) pe_int) (pe_op op_mul (pe_op op_mul pe_int (pv 1)) (pv 1))) (pe_op op_mul pe_int (pv 1))) pe_int) pe_int) pe_int))
      (pss_one (ps_ret (pe_lst (pa_cons (pe_op op_mul (pv 3) (pe_callTy call_int1 (by rfl) T.z_int (by decide +kernel) (pa_cons (pe_cmpR op_ge (pv 3) (pe_op op_pow pe_int pe_int) (nomark _)) pa_nil))) (pa_cons (pe_op op_mod (pe_op op_mul (pv 4) (pv 4)) pe_int) pa_nil))))))))), ?_⟩
    refine ⟨_, rfl, _, rfl, a, _, rfl, hS, fun p hp => ?_⟩
    have s1 : Same H (upd H p (.lst (cutV (ns.map V.int) none (some 63)))) := same_new hp
    have hS1 : SqL K (upd H p (.lst (cutV (ns.map V.int) none (some 63)))) a (ns.map V.int) := s1.seq hS
    refine ⟨p, ns, rfl, .of (by rw [upd_same, cut63 hlen]), _, _, rfl, rfl, .inl ⟨by decide, by decide⟩, _, rfl, _, _, rfl, rfl, ?_⟩
    refine ⟨_, rfl, _, rfl, a, _, rfl, .inl hS1, _, _, rfl, rfl, _, rfl, ifd (fun c => ?_) (fun c => ?_)⟩
    · rw [List.length_map] at c
      have hk2 : k < ns.length := by omega
      refine ⟨_, rfl, _, rfl, a, _, (k : Int), .int ns[k], rfl, rfl, hS1, atI_nat (by rw [List.getElem?_map, List.getElem?_eq_getElem hk2]; rfl), ?_⟩
      refine ⟨_, rfl, _, rfl, ?_⟩
      refine ⟨_, rfl, _, _, rfl, rfl, (by show (0 : Int) < _; decide), _, rfl, _, _, rfl, rfl, .inl ⟨by decide, by decide⟩, _, rfl, _, _, rfl, rfl, .inr ⟨by omega, by omega⟩, _, _, rfl, rfl, _, rfl, _, _, rfl, rfl, .inl ⟨by decide, by decide⟩, _, _, rfl, rfl, _, _, rfl, rfl, _, _, rfl, rfl, .inr ⟨by decide, by decide⟩, _, _, rfl, rfl, (by show (0 : Int) < _; decide), ?_⟩
      refine ⟨_, rfl, _, rfl, _, _, rfl, rfl, ⟨by decide, by decide, by decide⟩, _, _, rfl, rfl, .inr ⟨_, rfl, _, _, rfl, rfl, .inr (b01 _), ?_⟩⟩
      refine ⟨_, rfl, _, rfl, _, _, rfl, rfl, .inl (mixb _), _, _, rfl, rfl, (by show (0 : Int) < _; decide), sz (by simp), fun p2 hp2 => ?_⟩
      exact q _ _ p2 _ (sameN s1 hp2) (Same.free s1 hp2) ⟨upd_same, sizeb _ _, Int.emod_nonneg _ (by decide), Int.lt_trans (Int.emod_lt_of_pos _ (by decide)) (by decide)⟩
    · refine ⟨_, rfl, _, rfl, ?_⟩
      refine ⟨_, rfl, _, _, rfl, rfl, (by show (0 : Int) < _; decide), _, rfl, _, _, rfl, rfl, .inl ⟨by decide, by decide⟩, _, rfl, _, _, rfl, rfl, .inr ⟨by omega, by omega⟩, _, _, rfl, rfl, _, rfl, _, _, rfl, rfl, .inl ⟨by decide, by decide⟩, _, _, rfl, rfl, _, _, rfl, rfl, _, _, rfl, rfl, .inr ⟨by decide, by decide⟩, _, _, rfl, rfl, (by show (0 : Int) < _; decide), ?_⟩
      refine ⟨_, rfl, _, rfl, _, _, rfl, rfl, ⟨by decide, by decide, by decide⟩, _, _, rfl, rfl, .inr ⟨_, rfl, _, _, rfl, rfl, .inr (b01 _), ?_⟩⟩
      refine ⟨_, rfl, _, rfl, _, _, rfl, rfl, .inl (mixb _), _, _, rfl, rfl, (by show (0 : Int) < _; decide), sz (by simp), fun p2 hp2 => ?_⟩
      exact q _ _ p2 _ (sameN s1 hp2) (Same.free s1 hp2) ⟨upd_same, sizeb _ _, Int.emod_nonneg _ (by decide), Int.lt_trans (Int.emod_lt_of_pos _ (by decide)) (by decide)⟩
def sp__law_kinds (K : PySem.W.Frag) : Sp := fun vs H Q _ => ∃ (a : Addr) (w : Nat) (u v : V), vs = [.ref a] ∧ ErAt K H a w u v ∧ ∀ p H', Same H H' → H p = none → H' p = some (.lst ((List.range 18).map fun j => V.bl (decide (w = j)))) → Q (.ref p) H'
theorem ok__law_kinds {f : Addr} {fd : FuncData} (F : Fun K "_law_kinds" "_law_kinds" s__law_kinds f fd) (T : Txt K w mg) : FnOk P w K mg base CX0 1 f fd ["_law_e"] (sp__law_kinds K) := by
  obtain ⟨p_Fault, hk_Fault, ak_Fault⟩ := T.k_Fault
  obtain ⟨p_NoAddress, hk_NoAddress, ak_NoAddress⟩ := T.k_NoAddress
  obtain ⟨p_NoBounds, hk_NoBounds, ak_NoBounds⟩ := T.k_NoBounds
  obtain ⟨p_NoCompartment, hk_NoCompartment, ak_NoCompartment⟩ := T.k_NoCompartment
  obtain ⟨p_NoDeeds, hk_NoDeeds, ak_NoDeeds⟩ := T.k_NoDeeds
  obtain ⟨p_NoFields, hk_NoFields, ak_NoFields⟩ := T.k_NoFields
  obtain ⟨p_NoHands, hk_NoHands, ak_NoHands⟩ := T.k_NoHands
  obtain ⟨p_NoLine, hk_NoLine, ak_NoLine⟩ := T.k_NoLine
  obtain ⟨p_NoName, hk_NoName, ak_NoName⟩ := T.k_NoName
  obtain ⟨p_NoNumber, hk_NoNumber, ak_NoNumber⟩ := T.k_NoNumber
  obtain ⟨p_NoOffset, hk_NoOffset, ak_NoOffset⟩ := T.k_NoOffset
  obtain ⟨p_NoRows, hk_NoRows, ak_NoRows⟩ := T.k_NoRows
  obtain ⟨p_NoRule, hk_NoRule, ak_NoRule⟩ := T.k_NoRule
  obtain ⟨p_NoSweep, hk_NoSweep, ak_NoSweep⟩ := T.k_NoSweep
  obtain ⟨p_NoText, hk_NoText, ak_NoText⟩ := T.k_NoText
  obtain ⟨p_NoWord, hk_NoWord, ak_NoWord⟩ := T.k_NoWord
  obtain ⟨p_Sweeping, hk_Sweeping, ak_Sweeping⟩ := T.k_Sweeping
  obtain ⟨p_TooMany, hk_TooMany, ak_TooMany⟩ := T.k_TooMany
  refine F.ok sc__law_kinds (fun vs H Q E h => ?_) (fun cdv A outer s H vs Q E hr h => ?_)
  · obtain ⟨a, w0, u, v, rfl, er, q⟩ := h; rfl
  · obtain ⟨a, w0, u, v, rfl, er, q⟩ := h
    refine ⟨_, (pss_cons (ps_set (i := 1) sc__law_kinds.nd rfl (.inl rfl) (pe_lst (pa_cons (pe_callB call_isX (by rfl) T.z_isinstance (by decide +kernel) (pa_cons (pv 0) (pa_cons (pe_glob (v := .ref p_NoFields) (by rfl) hk_NoFields rfl) pa_nil))) (pa_cons (pe_callB call_isX (by rfl) T.z_isinstance (by decide +kernel) (pa_cons (pv 0) (pa_cons (pe_glob (v := .ref p_NoBounds) (by rfl) hk_NoBounds rfl) pa_nil))) (pa_cons (pe_callB call_isX (by rfl) T.z_isinstance (by decide +kernel) (pa_cons (pv 0) (pa_cons (pe_glob (v := .ref p_NoOffset) (by rfl) hk_NoOffset rfl) pa_nil))) (pa_cons (pe_callB call_isX (by rfl) T.z_isinstance (by decide +kernel) (pa_cons (pv 0) (pa_cons (pe_glob (v := .ref p_NoAddress) (by rfl) hk_NoAddress rfl) pa_nil))) pa_nil))))))
      (pss_cons (ps_set (i := 1) sc__law_kinds.nd rfl (.inl rfl) (pe_op op_cat (pv 1) (pe_lst (pa_cons (pe_callB call_isX (by rfl) T.z_isinstance (by decide +kernel) (pa_cons (pv 0) (pa_cons (pe_glob (v := .ref p_NoWord) (by rfl) hk_NoWord rfl) pa_nil))) (pa_cons (pe_callB call_isX (by rfl) T.z_isinstance (by decide +kernel) (pa_cons (pv 0) (pa_cons (pe_glob (v := .ref p_NoHands) (by rfl) hk_NoHands rfl) pa_nil))) (pa_cons (pe_callB call_isX (by rfl) T.z_isinstance (by decide +kernel) (pa_cons (pv 0) (pa_cons (pe_glob (v := .ref p_NoRule) (by rfl) hk_NoRule rfl) pa_nil))) (pa_cons (pe_callB call_isX (by rfl) T.z_isinstance (by decide +kernel) (pa_cons (pv 0) (pa_cons (pe_glob (v := .ref p_NoNumber) (by rfl) hk_NoNumber rfl) pa_nil))) pa_nil)))))))
      (pss_cons (ps_set (i := 1) sc__law_kinds.nd rfl (.inl rfl) (pe_op op_cat (pv 1) (pe_lst (pa_cons (pe_callB call_isX (by rfl) T.z_isinstance (by decide +kernel) (pa_cons (pv 0) (pa_cons (pe_glob (v := .ref p_NoLine) (by rfl) hk_NoLine rfl) pa_nil))) (pa_cons (pe_callB call_isX (by rfl) T.z_isinstance (by decide +kernel) (pa_cons (pv 0) (pa_cons (pe_glob (v := .ref p_Sweeping) (by rfl) hk_Sweeping rfl) pa_nil))) (pa_cons (pe_callB call_isX (by rfl) T.z_isinstance (by decide +kernel) (pa_cons (pv 0) (pa_cons (pe_glob (v := .ref p_NoSweep) (by rfl) hk_NoSweep rfl) pa_nil))) (pa_cons (pe_callB call_isX (by rfl) T.z_isinstance (by decide +kernel) (pa_cons (pv 0) (pa_cons (pe_glob (v := .ref p_Fault) (by rfl) hk_Fault rfl) pa_nil))) pa_nil)))))))
      (pss_cons (ps_set (i := 1) sc__law_kinds.nd rfl (.inl rfl) (pe_op op_cat (pv 1) (pe_lst (pa_cons (pe_callB call_isX (by rfl) T.z_isinstance (by decide +kernel) (pa_cons (pv 0) (pa_cons (pe_glob (v := .ref p_NoRows) (by rfl) hk_NoRows rfl) pa_nil))) (pa_cons (pe_callB call_isX (by rfl) T.z_isinstance (by decide +kernel) (pa_cons (pv 0) (pa_cons (pe_glob (v := .ref p_NoText) (by rfl) hk_NoText rfl) pa_nil))) (pa_cons (pe_callB call_isX (by rfl) T.z_isinstance (by decide +kernel) (pa_cons (pv 0) (pa_cons (pe_glob (v := .ref p_NoDeeds) (by rfl) hk_NoDeeds rfl) pa_nil))) (pa_cons (pe_callB call_isX (by rfl) T.z_isinstance (by decide +kernel) (pa_cons (pv 0) (pa_cons (pe_glob (v := .ref p_NoName) (by rfl) hk_NoName rfl) pa_nil))) pa_nil)))))))
      (pss_one (ps_ret (pe_op op_cat (pv 1) (pe_lst (pa_cons (pe_callB call_isX (by rfl) T.z_isinstance (by decide +kernel) (pa_cons (pv 0) (pa_cons (pe_glob (v := .ref p_TooMany) (by rfl) hk_TooMany rfl) pa_nil))) (pa_cons (pe_callB call_isX (by rfl) T.z_isinstance (by decide +kernel) (pa_cons (pv 0) (pa_cons (pe_glob (v := .ref p_NoCompartment) (by rfl) hk_NoCompartment rfl) pa_nil))) pa_nil)))))))))), ?_⟩
    obtain ⟨C, d, ha, hd, kf⟩ := er
    have S := Same.refl H
    refine ⟨_, rfl, a, C, d, _, _, _, _, rfl, ha, hd, kf.ec, .own _, kf.own 0 _ _ rfl ak_NoFields, _, rfl, a, C, d, _, _, _, _, rfl, ha, hd, kf.ec, .own _, kf.own 1 _ _ rfl ak_NoBounds, _, rfl, a, C, d, _, _, _, _, rfl, ha, hd, kf.ec, .own _, kf.own 2 _ _ rfl ak_NoOffset, _, rfl, a, C, d, _, _, _, _, rfl, ha, hd, kf.ec, .own _, kf.own 3 _ _ rfl ak_NoAddress, sz (by simp), fun p0 hp0 => ?_⟩
    have kp0 := same_new (H := H) (o := .lst [V.bl (decide (w0 = 0)), V.bl (decide (w0 = 1)), V.bl (decide (w0 = 2)), V.bl (decide (w0 = 3))]) hp0
    have ep0 : (upd H p0 (.lst [V.bl (decide (w0 = 0)), V.bl (decide (w0 = 1)), V.bl (decide (w0 = 2)), V.bl (decide (w0 = 3))])) p0 = some (.lst [V.bl (decide (w0 = 0)), V.bl (decide (w0 = 1)), V.bl (decide (w0 = 2)), V.bl (decide (w0 = 3))]) := upd_same
    have np0 : H p0 = none := free0 S hp0
    replace S := S.trans kp0
    replace ha := kp0 _ _ ha
    replace hd := kp0 _ _ hd
    generalize upd H p0 _ = G0 at S ha hd ep0 ⊢
    refine ⟨_, rfl, _, rfl, a, C, d, _, _, _, _, rfl, ha, hd, kf.ec, .own _, kf.own 4 _ _ rfl ak_NoWord, _, rfl, a, C, d, _, _, _, _, rfl, ha, hd, kf.ec, .own _, kf.own 5 _ _ rfl ak_NoHands, _, rfl, a, C, d, _, _, _, _, rfl, ha, hd, kf.ec, .own _, kf.own 6 _ _ rfl ak_NoRule, _, rfl, a, C, d, _, _, _, _, rfl, ha, hd, kf.ec, .own _, kf.own 7 _ _ rfl ak_NoNumber, sz (by simp), fun p1 hp1 => ?_⟩
    have kp1 := same_new (H := G0) (o := .lst [V.bl (decide (w0 = 4)), V.bl (decide (w0 = 5)), V.bl (decide (w0 = 6)), V.bl (decide (w0 = 7))]) hp1
    have ep1 : (upd G0 p1 (.lst [V.bl (decide (w0 = 4)), V.bl (decide (w0 = 5)), V.bl (decide (w0 = 6)), V.bl (decide (w0 = 7))])) p1 = some (.lst [V.bl (decide (w0 = 4)), V.bl (decide (w0 = 5)), V.bl (decide (w0 = 6)), V.bl (decide (w0 = 7))]) := upd_same
    have np1 : H p1 = none := free0 S hp1
    replace S := S.trans kp1
    replace ha := kp1 _ _ ha
    replace hd := kp1 _ _ hd
    replace ep0 := kp1 _ _ ep0
    generalize upd G0 p1 _ = G1 at S ha hd ep1 ep0 ⊢
    refine ⟨p0, p1, _, _, rfl, rfl, ep0, ep1, sz (by simp), fun r1 hr1 => ?_⟩
    have kr1 := same_new (H := G1) (o := .lst ([V.bl (decide (w0 = 0)), V.bl (decide (w0 = 1)), V.bl (decide (w0 = 2)), V.bl (decide (w0 = 3))] ++ [V.bl (decide (w0 = 4)), V.bl (decide (w0 = 5)), V.bl (decide (w0 = 6)), V.bl (decide (w0 = 7))])) hr1
    have er1 : (upd G1 r1 (.lst ([V.bl (decide (w0 = 0)), V.bl (decide (w0 = 1)), V.bl (decide (w0 = 2)), V.bl (decide (w0 = 3))] ++ [V.bl (decide (w0 = 4)), V.bl (decide (w0 = 5)), V.bl (decide (w0 = 6)), V.bl (decide (w0 = 7))]))) r1 = some (.lst ([V.bl (decide (w0 = 0)), V.bl (decide (w0 = 1)), V.bl (decide (w0 = 2)), V.bl (decide (w0 = 3))] ++ [V.bl (decide (w0 = 4)), V.bl (decide (w0 = 5)), V.bl (decide (w0 = 6)), V.bl (decide (w0 = 7))])) := upd_same
    have nr1 : H r1 = none := free0 S hr1
    replace S := S.trans kr1
    replace ha := kr1 _ _ ha
    replace hd := kr1 _ _ hd
    generalize upd G1 r1 _ = G2 at S ha hd er1 ⊢
    refine ⟨_, rfl, _, rfl, a, C, d, _, _, _, _, rfl, ha, hd, kf.ec, .own _, kf.own 8 _ _ rfl ak_NoLine, _, rfl, a, C, d, _, _, _, _, rfl, ha, hd, kf.ec, .own _, kf.own 9 _ _ rfl ak_Sweeping, _, rfl, a, C, d, _, _, _, _, rfl, ha, hd, kf.ec, .own _, kf.own 10 _ _ rfl ak_NoSweep, _, rfl, a, C, d, _, _, _, _, rfl, ha, hd, kf.ec, .own _, kf.own 11 _ _ rfl ak_Fault, sz (by simp), fun p2 hp2 => ?_⟩
    have kp2 := same_new (H := G2) (o := .lst [V.bl (decide (w0 = 8)), V.bl (decide (w0 = 9)), V.bl (decide (w0 = 10)), V.bl (decide (w0 = 11))]) hp2
    have ep2 : (upd G2 p2 (.lst [V.bl (decide (w0 = 8)), V.bl (decide (w0 = 9)), V.bl (decide (w0 = 10)), V.bl (decide (w0 = 11))])) p2 = some (.lst [V.bl (decide (w0 = 8)), V.bl (decide (w0 = 9)), V.bl (decide (w0 = 10)), V.bl (decide (w0 = 11))]) := upd_same
    have np2 : H p2 = none := free0 S hp2
    replace S := S.trans kp2
    replace ha := kp2 _ _ ha
    replace hd := kp2 _ _ hd
    replace er1 := kp2 _ _ er1
    generalize upd G2 p2 _ = G3 at S ha hd ep2 er1 ⊢
    refine ⟨r1, p2, _, _, rfl, rfl, er1, ep2, sz (by simp), fun r2 hr2 => ?_⟩
    have kr2 := same_new (H := G3) (o := .lst (([V.bl (decide (w0 = 0)), V.bl (decide (w0 = 1)), V.bl (decide (w0 = 2)), V.bl (decide (w0 = 3))] ++ [V.bl (decide (w0 = 4)), V.bl (decide (w0 = 5)), V.bl (decide (w0 = 6)), V.bl (decide (w0 = 7))]) ++ [V.bl (decide (w0 = 8)), V.bl (decide (w0 = 9)), V.bl (decide (w0 = 10)), V.bl (decide (w0 = 11))])) hr2
    have er2 : (upd G3 r2 (.lst (([V.bl (decide (w0 = 0)), V.bl (decide (w0 = 1)), V.bl (decide (w0 = 2)), V.bl (decide (w0 = 3))] ++ [V.bl (decide (w0 = 4)), V.bl (decide (w0 = 5)), V.bl (decide (w0 = 6)), V.bl (decide (w0 = 7))]) ++ [V.bl (decide (w0 = 8)), V.bl (decide (w0 = 9)), V.bl (decide (w0 = 10)), V.bl (decide (w0 = 11))]))) r2 = some (.lst (([V.bl (decide (w0 = 0)), V.bl (decide (w0 = 1)), V.bl (decide (w0 = 2)), V.bl (decide (w0 = 3))] ++ [V.bl (decide (w0 = 4)), V.bl (decide (w0 = 5)), V.bl (decide (w0 = 6)), V.bl (decide (w0 = 7))]) ++ [V.bl (decide (w0 = 8)), V.bl (decide (w0 = 9)), V.bl (decide (w0 = 10)), V.bl (decide (w0 = 11))])) := upd_same
    have nr2 : H r2 = none := free0 S hr2
    replace S := S.trans kr2
    replace ha := kr2 _ _ ha
    replace hd := kr2 _ _ hd
    generalize upd G3 r2 _ = G4 at S ha hd er2 ⊢
    refine ⟨_, rfl, _, rfl, a, C, d, _, _, _, _, rfl, ha, hd, kf.ec, .own _, kf.own 12 _ _ rfl ak_NoRows, _, rfl, a, C, d, _, _, _, _, rfl, ha, hd, kf.ec, .own _, kf.own 13 _ _ rfl ak_NoText, _, rfl, a, C, d, _, _, _, _, rfl, ha, hd, kf.ec, .own _, kf.own 14 _ _ rfl ak_NoDeeds, _, rfl, a, C, d, _, _, _, _, rfl, ha, hd, kf.ec, .own _, kf.own 15 _ _ rfl ak_NoName, sz (by simp), fun p3 hp3 => ?_⟩
    have kp3 := same_new (H := G4) (o := .lst [V.bl (decide (w0 = 12)), V.bl (decide (w0 = 13)), V.bl (decide (w0 = 14)), V.bl (decide (w0 = 15))]) hp3
    have ep3 : (upd G4 p3 (.lst [V.bl (decide (w0 = 12)), V.bl (decide (w0 = 13)), V.bl (decide (w0 = 14)), V.bl (decide (w0 = 15))])) p3 = some (.lst [V.bl (decide (w0 = 12)), V.bl (decide (w0 = 13)), V.bl (decide (w0 = 14)), V.bl (decide (w0 = 15))]) := upd_same
    have np3 : H p3 = none := free0 S hp3
    replace S := S.trans kp3
    replace ha := kp3 _ _ ha
    replace hd := kp3 _ _ hd
    replace er2 := kp3 _ _ er2
    generalize upd G4 p3 _ = G5 at S ha hd ep3 er2 ⊢
    refine ⟨r2, p3, _, _, rfl, rfl, er2, ep3, sz (by simp), fun r3 hr3 => ?_⟩
    have kr3 := same_new (H := G5) (o := .lst ((([V.bl (decide (w0 = 0)), V.bl (decide (w0 = 1)), V.bl (decide (w0 = 2)), V.bl (decide (w0 = 3))] ++ [V.bl (decide (w0 = 4)), V.bl (decide (w0 = 5)), V.bl (decide (w0 = 6)), V.bl (decide (w0 = 7))]) ++ [V.bl (decide (w0 = 8)), V.bl (decide (w0 = 9)), V.bl (decide (w0 = 10)), V.bl (decide (w0 = 11))]) ++ [V.bl (decide (w0 = 12)), V.bl (decide (w0 = 13)), V.bl (decide (w0 = 14)), V.bl (decide (w0 = 15))])) hr3
    have er3 : (upd G5 r3 (.lst ((([V.bl (decide (w0 = 0)), V.bl (decide (w0 = 1)), V.bl (decide (w0 = 2)), V.bl (decide (w0 = 3))] ++ [V.bl (decide (w0 = 4)), V.bl (decide (w0 = 5)), V.bl (decide (w0 = 6)), V.bl (decide (w0 = 7))]) ++ [V.bl (decide (w0 = 8)), V.bl (decide (w0 = 9)), V.bl (decide (w0 = 10)), V.bl (decide (w0 = 11))]) ++ [V.bl (decide (w0 = 12)), V.bl (decide (w0 = 13)), V.bl (decide (w0 = 14)), V.bl (decide (w0 = 15))]))) r3 = some (.lst ((([V.bl (decide (w0 = 0)), V.bl (decide (w0 = 1)), V.bl (decide (w0 = 2)), V.bl (decide (w0 = 3))] ++ [V.bl (decide (w0 = 4)), V.bl (decide (w0 = 5)), V.bl (decide (w0 = 6)), V.bl (decide (w0 = 7))]) ++ [V.bl (decide (w0 = 8)), V.bl (decide (w0 = 9)), V.bl (decide (w0 = 10)), V.bl (decide (w0 = 11))]) ++ [V.bl (decide (w0 = 12)), V.bl (decide (w0 = 13)), V.bl (decide (w0 = 14)), V.bl (decide (w0 = 15))])) := upd_same
    have nr3 : H r3 = none := free0 S hr3
    replace S := S.trans kr3
    replace ha := kr3 _ _ ha
    replace hd := kr3 _ _ hd
    generalize upd G5 r3 _ = G6 at S ha hd er3 ⊢
    refine ⟨_, rfl, _, rfl, a, C, d, _, _, _, _, rfl, ha, hd, kf.ec, .own _, kf.own 16 _ _ rfl ak_TooMany, _, rfl, a, C, d, _, _, _, _, rfl, ha, hd, kf.ec, .own _, kf.own 17 _ _ rfl ak_NoCompartment, sz (by simp), fun p4 hp4 => ?_⟩
    have kp4 := same_new (H := G6) (o := .lst [V.bl (decide (w0 = 16)), V.bl (decide (w0 = 17))]) hp4
    have ep4 : (upd G6 p4 (.lst [V.bl (decide (w0 = 16)), V.bl (decide (w0 = 17))])) p4 = some (.lst [V.bl (decide (w0 = 16)), V.bl (decide (w0 = 17))]) := upd_same
    have np4 : H p4 = none := free0 S hp4
    replace S := S.trans kp4
    replace ha := kp4 _ _ ha
    replace hd := kp4 _ _ hd
    replace er3 := kp4 _ _ er3
    generalize upd G6 p4 _ = G7 at S ha hd ep4 er3 ⊢
    refine ⟨r3, p4, _, _, rfl, rfl, er3, ep4, sz (by simp), fun r4 hr4 => ?_⟩
    exact q _ _ (S.trans (same_new hr4)) (free0 S hr4) (by rw [upd_same]; rfl)
def sp__law_bases (K : PySem.W.Frag) : Sp := fun vs H Q _ => ∃ (a : Addr) (w : Nat) (u v : V), vs = [.ref a] ∧ ErAt K H a w u v ∧ ∀ p H', Same H H' → H p = none → H' p = some (.lst ((List.range 7).map fun j => V.bl (dueB w j))) → Q (.ref p) H'
theorem ok__law_bases {f : Addr} {fd : FuncData} (F : Fun K "_law_bases" "_law_bases" s__law_bases f fd) (T : Txt K w mg) : FnOk P w K mg base CX0 1 f fd ["_law_e"] (sp__law_bases K) := by
  obtain ⟨p_ReachError, hk_ReachError, ak_ReachError⟩ := T.k_ReachError
  refine F.ok sc__law_bases (fun vs H Q E h => ?_) (fun cdv A outer s H vs Q E hr h => ?_)
  · obtain ⟨a, w0, u, v, rfl, er, q⟩ := h; rfl
  · obtain ⟨a, w0, u, v, rfl, er, q⟩ := h
    refine ⟨_, (pss_cons (ps_set (i := 1) sc__law_bases.nd rfl (.inl rfl) (pe_lst (pa_cons (pe_callB call_isX (by rfl) T.z_isinstance (by decide +kernel) (pa_cons (pv 0) (pa_cons (pe_glob (v := .ref p_ReachError) (by rfl) hk_ReachError rfl) pa_nil))) (pa_cons (pe_callB call_isX (by rfl) T.z_isinstance (by decide +kernel) (pa_cons (pv 0) (pa_cons (pe_bltn (v := .ty "ValueError") (by rfl) T.z_ValueError (by decide +kernel) rfl) pa_nil))) (pa_cons (pe_callB call_isX (by rfl) T.z_isinstance (by decide +kernel) (pa_cons (pv 0) (pa_cons (pe_bltn (v := .ty "OverflowError") (by rfl) T.z_OverflowError (by decide +kernel) rfl) pa_nil))) pa_nil)))))
      (pss_cons (ps_set (i := 1) sc__law_bases.nd rfl (.inl rfl) (pe_op op_cat (pv 1) (pe_lst (pa_cons (pe_callB call_isX (by rfl) T.z_isinstance (by decide +kernel) (pa_cons (pv 0) (pa_cons (pe_bltn (v := .ty "KeyError") (by rfl) T.z_KeyError (by decide +kernel) rfl) pa_nil))) (pa_cons (pe_callB call_isX (by rfl) T.z_isinstance (by decide +kernel) (pa_cons (pv 0) (pa_cons (pe_bltn (v := .ty "LookupError") (by rfl) T.z_LookupError (by decide +kernel) rfl) pa_nil))) (pa_cons (pe_callB call_isX (by rfl) T.z_isinstance (by decide +kernel) (pa_cons (pv 0) (pa_cons (pe_bltn (v := .ty "RuntimeError") (by rfl) T.z_RuntimeError (by decide +kernel) rfl) pa_nil))) pa_nil))))))
      (pss_one (ps_ret (pe_op op_cat (pv 1) (pe_lst (pa_cons (pe_callB call_isX (by rfl) T.z_isinstance (by decide +kernel) (pa_cons (pv 0) (pa_cons (pe_bltn (v := .ty "IndexError") (by rfl) T.z_IndexError (by decide +kernel) rfl) pa_nil))) pa_nil))))))), ?_⟩
    obtain ⟨C, d, ha, hd, kf⟩ := er
    have S := Same.refl H
    refine ⟨_, rfl, a, C, d, _, _, _, _, rfl, ha, hd, kf.ec, .own _, kf.re _ ak_ReachError, _, rfl, a, C, d, _, _, _, _, rfl, ha, hd, kf.ec, .ty _, kf.ty 0 _ rfl, _, rfl, a, C, d, _, _, _, _, rfl, ha, hd, kf.ec, .ty _, kf.ty 1 _ rfl, sz (by simp), fun p0 hp0 => ?_⟩
    have kp0 := same_new (H := H) (o := .lst [V.bl (dueB w0 0), V.bl (dueB w0 1), V.bl (dueB w0 2)]) hp0
    have ep0 : (upd H p0 (.lst [V.bl (dueB w0 0), V.bl (dueB w0 1), V.bl (dueB w0 2)])) p0 = some (.lst [V.bl (dueB w0 0), V.bl (dueB w0 1), V.bl (dueB w0 2)]) := upd_same
    have np0 : H p0 = none := free0 S hp0
    replace S := S.trans kp0
    replace ha := kp0 _ _ ha
    replace hd := kp0 _ _ hd
    generalize upd H p0 _ = G0 at S ha hd ep0 ⊢
    refine ⟨_, rfl, _, rfl, a, C, d, _, _, _, _, rfl, ha, hd, kf.ec, .ty _, kf.ty 2 _ rfl, _, rfl, a, C, d, _, _, _, _, rfl, ha, hd, kf.ec, .ty _, kf.ty 3 _ rfl, _, rfl, a, C, d, _, _, _, _, rfl, ha, hd, kf.ec, .ty _, kf.ty 4 _ rfl, sz (by simp), fun p1 hp1 => ?_⟩
    have kp1 := same_new (H := G0) (o := .lst [V.bl (dueB w0 3), V.bl (dueB w0 4), V.bl (dueB w0 5)]) hp1
    have ep1 : (upd G0 p1 (.lst [V.bl (dueB w0 3), V.bl (dueB w0 4), V.bl (dueB w0 5)])) p1 = some (.lst [V.bl (dueB w0 3), V.bl (dueB w0 4), V.bl (dueB w0 5)]) := upd_same
    have np1 : H p1 = none := free0 S hp1
    replace S := S.trans kp1
    replace ha := kp1 _ _ ha
    replace hd := kp1 _ _ hd
    replace ep0 := kp1 _ _ ep0
    generalize upd G0 p1 _ = G1 at S ha hd ep1 ep0 ⊢
    refine ⟨p0, p1, _, _, rfl, rfl, ep0, ep1, sz (by simp), fun r1 hr1 => ?_⟩
    have kr1 := same_new (H := G1) (o := .lst ([V.bl (dueB w0 0), V.bl (dueB w0 1), V.bl (dueB w0 2)] ++ [V.bl (dueB w0 3), V.bl (dueB w0 4), V.bl (dueB w0 5)])) hr1
    have er1 : (upd G1 r1 (.lst ([V.bl (dueB w0 0), V.bl (dueB w0 1), V.bl (dueB w0 2)] ++ [V.bl (dueB w0 3), V.bl (dueB w0 4), V.bl (dueB w0 5)]))) r1 = some (.lst ([V.bl (dueB w0 0), V.bl (dueB w0 1), V.bl (dueB w0 2)] ++ [V.bl (dueB w0 3), V.bl (dueB w0 4), V.bl (dueB w0 5)])) := upd_same
    have nr1 : H r1 = none := free0 S hr1
    replace S := S.trans kr1
    replace ha := kr1 _ _ ha
    replace hd := kr1 _ _ hd
    generalize upd G1 r1 _ = G2 at S ha hd er1 ⊢
    refine ⟨_, rfl, _, rfl, a, C, d, _, _, _, _, rfl, ha, hd, kf.ec, .ty _, kf.ty 5 _ rfl, sz (by simp), fun p2 hp2 => ?_⟩
    have kp2 := same_new (H := G2) (o := .lst [V.bl (dueB w0 6)]) hp2
    have ep2 : (upd G2 p2 (.lst [V.bl (dueB w0 6)])) p2 = some (.lst [V.bl (dueB w0 6)]) := upd_same
    have np2 : H p2 = none := free0 S hp2
    replace S := S.trans kp2
    replace ha := kp2 _ _ ha
    replace hd := kp2 _ _ hd
    replace er1 := kp2 _ _ er1
    generalize upd G2 p2 _ = G3 at S ha hd ep2 er1 ⊢
    refine ⟨r1, p2, _, _, rfl, rfl, er1, ep2, sz (by simp), fun r2 hr2 => ?_⟩
    exact q _ _ (S.trans (same_new hr2)) (free0 S hr2) (by rw [upd_same]; rfl)
theorem kf_0 {K : PySem.W.Frag} {w : World} {mg : Str → Option Value} (T : Txt K w mg) (C : Addr) (hn : PySem.W.nsIn K mainGlobals "NoFields" = some (some (.ref C))) : KF K C 0 where
  ec := T.e_NoFields _ hn
  own := fun j x D h hD => match j, h with
    | 0, h => by
      have h : some (Str.ofString "NoFields") = some x := h
      cases h
      exact T.i_NoFields_NoFields _ _ hn hD
    | 1, h => by
      have h : some (Str.ofString "NoBounds") = some x := h
      cases h
      exact T.i_NoFields_NoBounds _ _ hn hD
    | 2, h => by
      have h : some (Str.ofString "NoOffset") = some x := h
      cases h
      exact T.i_NoFields_NoOffset _ _ hn hD
    | 3, h => by
      have h : some (Str.ofString "NoAddress") = some x := h
      cases h
      exact T.i_NoFields_NoAddress _ _ hn hD
    | 4, h => by
      have h : some (Str.ofString "NoWord") = some x := h
      cases h
      exact T.i_NoFields_NoWord _ _ hn hD
    | 5, h => by
      have h : some (Str.ofString "NoHands") = some x := h
      cases h
      exact T.i_NoFields_NoHands _ _ hn hD
    | 6, h => by
      have h : some (Str.ofString "NoRule") = some x := h
      cases h
      exact T.i_NoFields_NoRule _ _ hn hD
    | 7, h => by
      have h : some (Str.ofString "NoNumber") = some x := h
      cases h
      exact T.i_NoFields_NoNumber _ _ hn hD
    | 8, h => by
      have h : some (Str.ofString "NoLine") = some x := h
      cases h
      exact T.i_NoFields_NoLine _ _ hn hD
    | 9, h => by
      have h : some (Str.ofString "Sweeping") = some x := h
      cases h
      exact T.i_NoFields_Sweeping _ _ hn hD
    | 10, h => by
      have h : some (Str.ofString "NoSweep") = some x := h
      cases h
      exact T.i_NoFields_NoSweep _ _ hn hD
    | 11, h => by
      have h : some (Str.ofString "Fault") = some x := h
      cases h
      exact T.i_NoFields_Fault _ _ hn hD
    | 12, h => by
      have h : some (Str.ofString "NoRows") = some x := h
      cases h
      exact T.i_NoFields_NoRows _ _ hn hD
    | 13, h => by
      have h : some (Str.ofString "NoText") = some x := h
      cases h
      exact T.i_NoFields_NoText _ _ hn hD
    | 14, h => by
      have h : some (Str.ofString "NoDeeds") = some x := h
      cases h
      exact T.i_NoFields_NoDeeds _ _ hn hD
    | 15, h => by
      have h : some (Str.ofString "NoName") = some x := h
      cases h
      exact T.i_NoFields_NoName _ _ hn hD
    | 16, h => by
      have h : some (Str.ofString "TooMany") = some x := h
      cases h
      exact T.i_NoFields_TooMany _ _ hn hD
    | 17, h => by
      have h : some (Str.ofString "NoCompartment") = some x := h
      cases h
      exact T.i_NoFields_NoCompartment _ _ hn hD
    | n + 18, h => by simp [namesL] at h
  re := fun D hD => T.i_NoFields_ReachError _ _ hn hD
  ty := fun j t h => match j, h with
    | 0, h => by
      have h : some "ValueError" = some t := h
      cases h
      exact T.i_NoFields_ValueError _ hn
    | 1, h => by
      have h : some "OverflowError" = some t := h
      cases h
      exact T.i_NoFields_OverflowError _ hn
    | 2, h => by
      have h : some "KeyError" = some t := h
      cases h
      exact T.i_NoFields_KeyError _ hn
    | 3, h => by
      have h : some "LookupError" = some t := h
      cases h
      exact T.i_NoFields_LookupError _ hn
    | 4, h => by
      have h : some "RuntimeError" = some t := h
      cases h
      exact T.i_NoFields_RuntimeError _ hn
    | 5, h => by
      have h : some "IndexError" = some t := h
      cases h
      exact T.i_NoFields_IndexError _ hn
    | n + 6, h => by simp [tyL] at h
  fl := fun f h => nomatch h
theorem kf_1 {K : PySem.W.Frag} {w : World} {mg : Str → Option Value} (T : Txt K w mg) (C : Addr) (hn : PySem.W.nsIn K mainGlobals "NoBounds" = some (some (.ref C))) : KF K C 1 where
  ec := T.e_NoBounds _ hn
  own := fun j x D h hD => match j, h with
    | 0, h => by
      have h : some (Str.ofString "NoFields") = some x := h
      cases h
      exact T.i_NoBounds_NoFields _ _ hn hD
    | 1, h => by
      have h : some (Str.ofString "NoBounds") = some x := h
      cases h
      exact T.i_NoBounds_NoBounds _ _ hn hD
    | 2, h => by
      have h : some (Str.ofString "NoOffset") = some x := h
      cases h
      exact T.i_NoBounds_NoOffset _ _ hn hD
    | 3, h => by
      have h : some (Str.ofString "NoAddress") = some x := h
      cases h
      exact T.i_NoBounds_NoAddress _ _ hn hD
    | 4, h => by
      have h : some (Str.ofString "NoWord") = some x := h
      cases h
      exact T.i_NoBounds_NoWord _ _ hn hD
    | 5, h => by
      have h : some (Str.ofString "NoHands") = some x := h
      cases h
      exact T.i_NoBounds_NoHands _ _ hn hD
    | 6, h => by
      have h : some (Str.ofString "NoRule") = some x := h
      cases h
      exact T.i_NoBounds_NoRule _ _ hn hD
    | 7, h => by
      have h : some (Str.ofString "NoNumber") = some x := h
      cases h
      exact T.i_NoBounds_NoNumber _ _ hn hD
    | 8, h => by
      have h : some (Str.ofString "NoLine") = some x := h
      cases h
      exact T.i_NoBounds_NoLine _ _ hn hD
    | 9, h => by
      have h : some (Str.ofString "Sweeping") = some x := h
      cases h
      exact T.i_NoBounds_Sweeping _ _ hn hD
    | 10, h => by
      have h : some (Str.ofString "NoSweep") = some x := h
      cases h
      exact T.i_NoBounds_NoSweep _ _ hn hD
    | 11, h => by
      have h : some (Str.ofString "Fault") = some x := h
      cases h
      exact T.i_NoBounds_Fault _ _ hn hD
    | 12, h => by
      have h : some (Str.ofString "NoRows") = some x := h
      cases h
      exact T.i_NoBounds_NoRows _ _ hn hD
    | 13, h => by
      have h : some (Str.ofString "NoText") = some x := h
      cases h
      exact T.i_NoBounds_NoText _ _ hn hD
    | 14, h => by
      have h : some (Str.ofString "NoDeeds") = some x := h
      cases h
      exact T.i_NoBounds_NoDeeds _ _ hn hD
    | 15, h => by
      have h : some (Str.ofString "NoName") = some x := h
      cases h
      exact T.i_NoBounds_NoName _ _ hn hD
    | 16, h => by
      have h : some (Str.ofString "TooMany") = some x := h
      cases h
      exact T.i_NoBounds_TooMany _ _ hn hD
    | 17, h => by
      have h : some (Str.ofString "NoCompartment") = some x := h
      cases h
      exact T.i_NoBounds_NoCompartment _ _ hn hD
    | n + 18, h => by simp [namesL] at h
  re := fun D hD => T.i_NoBounds_ReachError _ _ hn hD
  ty := fun j t h => match j, h with
    | 0, h => by
      have h : some "ValueError" = some t := h
      cases h
      exact T.i_NoBounds_ValueError _ hn
    | 1, h => by
      have h : some "OverflowError" = some t := h
      cases h
      exact T.i_NoBounds_OverflowError _ hn
    | 2, h => by
      have h : some "KeyError" = some t := h
      cases h
      exact T.i_NoBounds_KeyError _ hn
    | 3, h => by
      have h : some "LookupError" = some t := h
      cases h
      exact T.i_NoBounds_LookupError _ hn
    | 4, h => by
      have h : some "RuntimeError" = some t := h
      cases h
      exact T.i_NoBounds_RuntimeError _ hn
    | 5, h => by
      have h : some "IndexError" = some t := h
      cases h
      exact T.i_NoBounds_IndexError _ hn
    | n + 6, h => by simp [tyL] at h
  fl := fun f h => nomatch h
theorem kf_2 {K : PySem.W.Frag} {w : World} {mg : Str → Option Value} (T : Txt K w mg) (C : Addr) (hn : PySem.W.nsIn K mainGlobals "NoOffset" = some (some (.ref C))) : KF K C 2 where
  ec := T.e_NoOffset _ hn
  own := fun j x D h hD => match j, h with
    | 0, h => by
      have h : some (Str.ofString "NoFields") = some x := h
      cases h
      exact T.i_NoOffset_NoFields _ _ hn hD
    | 1, h => by
      have h : some (Str.ofString "NoBounds") = some x := h
      cases h
      exact T.i_NoOffset_NoBounds _ _ hn hD
    | 2, h => by
      have h : some (Str.ofString "NoOffset") = some x := h
      cases h
      exact T.i_NoOffset_NoOffset _ _ hn hD
    | 3, h => by
      have h : some (Str.ofString "NoAddress") = some x := h
      cases h
      exact T.i_NoOffset_NoAddress _ _ hn hD
    | 4, h => by
      have h : some (Str.ofString "NoWord") = some x := h
      cases h
      exact T.i_NoOffset_NoWord _ _ hn hD
    | 5, h => by
      have h : some (Str.ofString "NoHands") = some x := h
      cases h
      exact T.i_NoOffset_NoHands _ _ hn hD
    | 6, h => by
      have h : some (Str.ofString "NoRule") = some x := h
      cases h
      exact T.i_NoOffset_NoRule _ _ hn hD
    | 7, h => by
      have h : some (Str.ofString "NoNumber") = some x := h
      cases h
      exact T.i_NoOffset_NoNumber _ _ hn hD
    | 8, h => by
      have h : some (Str.ofString "NoLine") = some x := h
      cases h
      exact T.i_NoOffset_NoLine _ _ hn hD
    | 9, h => by
      have h : some (Str.ofString "Sweeping") = some x := h
      cases h
      exact T.i_NoOffset_Sweeping _ _ hn hD
    | 10, h => by
      have h : some (Str.ofString "NoSweep") = some x := h
      cases h
      exact T.i_NoOffset_NoSweep _ _ hn hD
    | 11, h => by
      have h : some (Str.ofString "Fault") = some x := h
      cases h
      exact T.i_NoOffset_Fault _ _ hn hD
    | 12, h => by
      have h : some (Str.ofString "NoRows") = some x := h
      cases h
      exact T.i_NoOffset_NoRows _ _ hn hD
    | 13, h => by
      have h : some (Str.ofString "NoText") = some x := h
      cases h
      exact T.i_NoOffset_NoText _ _ hn hD
    | 14, h => by
      have h : some (Str.ofString "NoDeeds") = some x := h
      cases h
      exact T.i_NoOffset_NoDeeds _ _ hn hD
    | 15, h => by
      have h : some (Str.ofString "NoName") = some x := h
      cases h
      exact T.i_NoOffset_NoName _ _ hn hD
    | 16, h => by
      have h : some (Str.ofString "TooMany") = some x := h
      cases h
      exact T.i_NoOffset_TooMany _ _ hn hD
    | 17, h => by
      have h : some (Str.ofString "NoCompartment") = some x := h
      cases h
      exact T.i_NoOffset_NoCompartment _ _ hn hD
    | n + 18, h => by simp [namesL] at h
  re := fun D hD => T.i_NoOffset_ReachError _ _ hn hD
  ty := fun j t h => match j, h with
    | 0, h => by
      have h : some "ValueError" = some t := h
      cases h
      exact T.i_NoOffset_ValueError _ hn
    | 1, h => by
      have h : some "OverflowError" = some t := h
      cases h
      exact T.i_NoOffset_OverflowError _ hn
    | 2, h => by
      have h : some "KeyError" = some t := h
      cases h
      exact T.i_NoOffset_KeyError _ hn
    | 3, h => by
      have h : some "LookupError" = some t := h
      cases h
      exact T.i_NoOffset_LookupError _ hn
    | 4, h => by
      have h : some "RuntimeError" = some t := h
      cases h
      exact T.i_NoOffset_RuntimeError _ hn
    | 5, h => by
      have h : some "IndexError" = some t := h
      cases h
      exact T.i_NoOffset_IndexError _ hn
    | n + 6, h => by simp [tyL] at h
  fl := fun f h => nomatch h
theorem kf_3 {K : PySem.W.Frag} {w : World} {mg : Str → Option Value} (T : Txt K w mg) (C : Addr) (hn : PySem.W.nsIn K mainGlobals "NoAddress" = some (some (.ref C))) : KF K C 3 where
  ec := T.e_NoAddress _ hn
  own := fun j x D h hD => match j, h with
    | 0, h => by
      have h : some (Str.ofString "NoFields") = some x := h
      cases h
      exact T.i_NoAddress_NoFields _ _ hn hD
    | 1, h => by
      have h : some (Str.ofString "NoBounds") = some x := h
      cases h
      exact T.i_NoAddress_NoBounds _ _ hn hD
    | 2, h => by
      have h : some (Str.ofString "NoOffset") = some x := h
      cases h
      exact T.i_NoAddress_NoOffset _ _ hn hD
    | 3, h => by
      have h : some (Str.ofString "NoAddress") = some x := h
      cases h
      exact T.i_NoAddress_NoAddress _ _ hn hD
    | 4, h => by
      have h : some (Str.ofString "NoWord") = some x := h
      cases h
      exact T.i_NoAddress_NoWord _ _ hn hD
    | 5, h => by
      have h : some (Str.ofString "NoHands") = some x := h
      cases h
      exact T.i_NoAddress_NoHands _ _ hn hD
    | 6, h => by
      have h : some (Str.ofString "NoRule") = some x := h
      cases h
      exact T.i_NoAddress_NoRule _ _ hn hD
    | 7, h => by
      have h : some (Str.ofString "NoNumber") = some x := h
      cases h
      exact T.i_NoAddress_NoNumber _ _ hn hD
    | 8, h => by
      have h : some (Str.ofString "NoLine") = some x := h
      cases h
      exact T.i_NoAddress_NoLine _ _ hn hD
    | 9, h => by
      have h : some (Str.ofString "Sweeping") = some x := h
      cases h
      exact T.i_NoAddress_Sweeping _ _ hn hD
    | 10, h => by
      have h : some (Str.ofString "NoSweep") = some x := h
      cases h
      exact T.i_NoAddress_NoSweep _ _ hn hD
    | 11, h => by
      have h : some (Str.ofString "Fault") = some x := h
      cases h
      exact T.i_NoAddress_Fault _ _ hn hD
    | 12, h => by
      have h : some (Str.ofString "NoRows") = some x := h
      cases h
      exact T.i_NoAddress_NoRows _ _ hn hD
    | 13, h => by
      have h : some (Str.ofString "NoText") = some x := h
      cases h
      exact T.i_NoAddress_NoText _ _ hn hD
    | 14, h => by
      have h : some (Str.ofString "NoDeeds") = some x := h
      cases h
      exact T.i_NoAddress_NoDeeds _ _ hn hD
    | 15, h => by
      have h : some (Str.ofString "NoName") = some x := h
      cases h
      exact T.i_NoAddress_NoName _ _ hn hD
    | 16, h => by
      have h : some (Str.ofString "TooMany") = some x := h
      cases h
      exact T.i_NoAddress_TooMany _ _ hn hD
    | 17, h => by
      have h : some (Str.ofString "NoCompartment") = some x := h
      cases h
      exact T.i_NoAddress_NoCompartment _ _ hn hD
    | n + 18, h => by simp [namesL] at h
  re := fun D hD => T.i_NoAddress_ReachError _ _ hn hD
  ty := fun j t h => match j, h with
    | 0, h => by
      have h : some "ValueError" = some t := h
      cases h
      exact T.i_NoAddress_ValueError _ hn
    | 1, h => by
      have h : some "OverflowError" = some t := h
      cases h
      exact T.i_NoAddress_OverflowError _ hn
    | 2, h => by
      have h : some "KeyError" = some t := h
      cases h
      exact T.i_NoAddress_KeyError _ hn
    | 3, h => by
      have h : some "LookupError" = some t := h
      cases h
      exact T.i_NoAddress_LookupError _ hn
    | 4, h => by
      have h : some "RuntimeError" = some t := h
      cases h
      exact T.i_NoAddress_RuntimeError _ hn
    | 5, h => by
      have h : some "IndexError" = some t := h
      cases h
      exact T.i_NoAddress_IndexError _ hn
    | n + 6, h => by simp [tyL] at h
  fl := fun f h => nomatch h
theorem kf_4 {K : PySem.W.Frag} {w : World} {mg : Str → Option Value} (T : Txt K w mg) (C : Addr) (hn : PySem.W.nsIn K mainGlobals "NoWord" = some (some (.ref C))) : KF K C 4 where
  ec := T.e_NoWord _ hn
  own := fun j x D h hD => match j, h with
    | 0, h => by
      have h : some (Str.ofString "NoFields") = some x := h
      cases h
      exact T.i_NoWord_NoFields _ _ hn hD
    | 1, h => by
      have h : some (Str.ofString "NoBounds") = some x := h
      cases h
      exact T.i_NoWord_NoBounds _ _ hn hD
    | 2, h => by
      have h : some (Str.ofString "NoOffset") = some x := h
      cases h
      exact T.i_NoWord_NoOffset _ _ hn hD
    | 3, h => by
      have h : some (Str.ofString "NoAddress") = some x := h
      cases h
      exact T.i_NoWord_NoAddress _ _ hn hD
    | 4, h => by
      have h : some (Str.ofString "NoWord") = some x := h
      cases h
      exact T.i_NoWord_NoWord _ _ hn hD
    | 5, h => by
      have h : some (Str.ofString "NoHands") = some x := h
      cases h
      exact T.i_NoWord_NoHands _ _ hn hD
    | 6, h => by
      have h : some (Str.ofString "NoRule") = some x := h
      cases h
      exact T.i_NoWord_NoRule _ _ hn hD
    | 7, h => by
      have h : some (Str.ofString "NoNumber") = some x := h
      cases h
      exact T.i_NoWord_NoNumber _ _ hn hD
    | 8, h => by
      have h : some (Str.ofString "NoLine") = some x := h
      cases h
      exact T.i_NoWord_NoLine _ _ hn hD
    | 9, h => by
      have h : some (Str.ofString "Sweeping") = some x := h
      cases h
      exact T.i_NoWord_Sweeping _ _ hn hD
    | 10, h => by
      have h : some (Str.ofString "NoSweep") = some x := h
      cases h
      exact T.i_NoWord_NoSweep _ _ hn hD
    | 11, h => by
      have h : some (Str.ofString "Fault") = some x := h
      cases h
      exact T.i_NoWord_Fault _ _ hn hD
    | 12, h => by
      have h : some (Str.ofString "NoRows") = some x := h
      cases h
      exact T.i_NoWord_NoRows _ _ hn hD
    | 13, h => by
      have h : some (Str.ofString "NoText") = some x := h
      cases h
      exact T.i_NoWord_NoText _ _ hn hD
    | 14, h => by
      have h : some (Str.ofString "NoDeeds") = some x := h
      cases h
      exact T.i_NoWord_NoDeeds _ _ hn hD
    | 15, h => by
      have h : some (Str.ofString "NoName") = some x := h
      cases h
      exact T.i_NoWord_NoName _ _ hn hD
    | 16, h => by
      have h : some (Str.ofString "TooMany") = some x := h
      cases h
      exact T.i_NoWord_TooMany _ _ hn hD
    | 17, h => by
      have h : some (Str.ofString "NoCompartment") = some x := h
      cases h
      exact T.i_NoWord_NoCompartment _ _ hn hD
    | n + 18, h => by simp [namesL] at h
  re := fun D hD => T.i_NoWord_ReachError _ _ hn hD
  ty := fun j t h => match j, h with
    | 0, h => by
      have h : some "ValueError" = some t := h
      cases h
      exact T.i_NoWord_ValueError _ hn
    | 1, h => by
      have h : some "OverflowError" = some t := h
      cases h
      exact T.i_NoWord_OverflowError _ hn
    | 2, h => by
      have h : some "KeyError" = some t := h
      cases h
      exact T.i_NoWord_KeyError _ hn
    | 3, h => by
      have h : some "LookupError" = some t := h
      cases h
      exact T.i_NoWord_LookupError _ hn
    | 4, h => by
      have h : some "RuntimeError" = some t := h
      cases h
      exact T.i_NoWord_RuntimeError _ hn
    | 5, h => by
      have h : some "IndexError" = some t := h
      cases h
      exact T.i_NoWord_IndexError _ hn
    | n + 6, h => by simp [tyL] at h
  fl := fun f h => nomatch h
theorem kf_5 {K : PySem.W.Frag} {w : World} {mg : Str → Option Value} (T : Txt K w mg) (C : Addr) (hn : PySem.W.nsIn K mainGlobals "NoHands" = some (some (.ref C))) : KF K C 5 where
  ec := T.e_NoHands _ hn
  own := fun j x D h hD => match j, h with
    | 0, h => by
      have h : some (Str.ofString "NoFields") = some x := h
      cases h
      exact T.i_NoHands_NoFields _ _ hn hD
    | 1, h => by
      have h : some (Str.ofString "NoBounds") = some x := h
      cases h
      exact T.i_NoHands_NoBounds _ _ hn hD
    | 2, h => by
      have h : some (Str.ofString "NoOffset") = some x := h
      cases h
      exact T.i_NoHands_NoOffset _ _ hn hD
    | 3, h => by
      have h : some (Str.ofString "NoAddress") = some x := h
      cases h
      exact T.i_NoHands_NoAddress _ _ hn hD
    | 4, h => by
      have h : some (Str.ofString "NoWord") = some x := h
      cases h
      exact T.i_NoHands_NoWord _ _ hn hD
    | 5, h => by
      have h : some (Str.ofString "NoHands") = some x := h
      cases h
      exact T.i_NoHands_NoHands _ _ hn hD
    | 6, h => by
      have h : some (Str.ofString "NoRule") = some x := h
      cases h
      exact T.i_NoHands_NoRule _ _ hn hD
    | 7, h => by
      have h : some (Str.ofString "NoNumber") = some x := h
      cases h
      exact T.i_NoHands_NoNumber _ _ hn hD
    | 8, h => by
      have h : some (Str.ofString "NoLine") = some x := h
      cases h
      exact T.i_NoHands_NoLine _ _ hn hD
    | 9, h => by
      have h : some (Str.ofString "Sweeping") = some x := h
      cases h
      exact T.i_NoHands_Sweeping _ _ hn hD
    | 10, h => by
      have h : some (Str.ofString "NoSweep") = some x := h
      cases h
      exact T.i_NoHands_NoSweep _ _ hn hD
    | 11, h => by
      have h : some (Str.ofString "Fault") = some x := h
      cases h
      exact T.i_NoHands_Fault _ _ hn hD
    | 12, h => by
      have h : some (Str.ofString "NoRows") = some x := h
      cases h
      exact T.i_NoHands_NoRows _ _ hn hD
    | 13, h => by
      have h : some (Str.ofString "NoText") = some x := h
      cases h
      exact T.i_NoHands_NoText _ _ hn hD
    | 14, h => by
      have h : some (Str.ofString "NoDeeds") = some x := h
      cases h
      exact T.i_NoHands_NoDeeds _ _ hn hD
    | 15, h => by
      have h : some (Str.ofString "NoName") = some x := h
      cases h
      exact T.i_NoHands_NoName _ _ hn hD
    | 16, h => by
      have h : some (Str.ofString "TooMany") = some x := h
      cases h
      exact T.i_NoHands_TooMany _ _ hn hD
    | 17, h => by
      have h : some (Str.ofString "NoCompartment") = some x := h
      cases h
      exact T.i_NoHands_NoCompartment _ _ hn hD
    | n + 18, h => by simp [namesL] at h
  re := fun D hD => T.i_NoHands_ReachError _ _ hn hD
  ty := fun j t h => match j, h with
    | 0, h => by
      have h : some "ValueError" = some t := h
      cases h
      exact T.i_NoHands_ValueError _ hn
    | 1, h => by
      have h : some "OverflowError" = some t := h
      cases h
      exact T.i_NoHands_OverflowError _ hn
    | 2, h => by
      have h : some "KeyError" = some t := h
      cases h
      exact T.i_NoHands_KeyError _ hn
    | 3, h => by
      have h : some "LookupError" = some t := h
      cases h
      exact T.i_NoHands_LookupError _ hn
    | 4, h => by
      have h : some "RuntimeError" = some t := h
      cases h
      exact T.i_NoHands_RuntimeError _ hn
    | 5, h => by
      have h : some "IndexError" = some t := h
      cases h
      exact T.i_NoHands_IndexError _ hn
    | n + 6, h => by simp [tyL] at h
  fl := fun f h => nomatch h
theorem kf_6 {K : PySem.W.Frag} {w : World} {mg : Str → Option Value} (T : Txt K w mg) (C : Addr) (hn : PySem.W.nsIn K mainGlobals "NoRule" = some (some (.ref C))) : KF K C 6 where
  ec := T.e_NoRule _ hn
  own := fun j x D h hD => match j, h with
    | 0, h => by
      have h : some (Str.ofString "NoFields") = some x := h
      cases h
      exact T.i_NoRule_NoFields _ _ hn hD
    | 1, h => by
      have h : some (Str.ofString "NoBounds") = some x := h
      cases h
      exact T.i_NoRule_NoBounds _ _ hn hD
    | 2, h => by
      have h : some (Str.ofString "NoOffset") = some x := h
      cases h
      exact T.i_NoRule_NoOffset _ _ hn hD
    | 3, h => by
      have h : some (Str.ofString "NoAddress") = some x := h
      cases h
      exact T.i_NoRule_NoAddress _ _ hn hD
    | 4, h => by
      have h : some (Str.ofString "NoWord") = some x := h
      cases h
      exact T.i_NoRule_NoWord _ _ hn hD
    | 5, h => by
      have h : some (Str.ofString "NoHands") = some x := h
      cases h
      exact T.i_NoRule_NoHands _ _ hn hD
    | 6, h => by
      have h : some (Str.ofString "NoRule") = some x := h
      cases h
      exact T.i_NoRule_NoRule _ _ hn hD
    | 7, h => by
      have h : some (Str.ofString "NoNumber") = some x := h
      cases h
      exact T.i_NoRule_NoNumber _ _ hn hD
    | 8, h => by
      have h : some (Str.ofString "NoLine") = some x := h
      cases h
      exact T.i_NoRule_NoLine _ _ hn hD
    | 9, h => by
      have h : some (Str.ofString "Sweeping") = some x := h
      cases h
      exact T.i_NoRule_Sweeping _ _ hn hD
    | 10, h => by
      have h : some (Str.ofString "NoSweep") = some x := h
      cases h
      exact T.i_NoRule_NoSweep _ _ hn hD
    | 11, h => by
      have h : some (Str.ofString "Fault") = some x := h
      cases h
      exact T.i_NoRule_Fault _ _ hn hD
    | 12, h => by
      have h : some (Str.ofString "NoRows") = some x := h
      cases h
      exact T.i_NoRule_NoRows _ _ hn hD
    | 13, h => by
      have h : some (Str.ofString "NoText") = some x := h
      cases h
      exact T.i_NoRule_NoText _ _ hn hD
    | 14, h => by
      have h : some (Str.ofString "NoDeeds") = some x := h
      cases h
      exact T.i_NoRule_NoDeeds _ _ hn hD
    | 15, h => by
      have h : some (Str.ofString "NoName") = some x := h
      cases h
      exact T.i_NoRule_NoName _ _ hn hD
    | 16, h => by
      have h : some (Str.ofString "TooMany") = some x := h
      cases h
      exact T.i_NoRule_TooMany _ _ hn hD
    | 17, h => by
      have h : some (Str.ofString "NoCompartment") = some x := h
      cases h
      exact T.i_NoRule_NoCompartment _ _ hn hD
    | n + 18, h => by simp [namesL] at h
  re := fun D hD => T.i_NoRule_ReachError _ _ hn hD
  ty := fun j t h => match j, h with
    | 0, h => by
      have h : some "ValueError" = some t := h
      cases h
      exact T.i_NoRule_ValueError _ hn
    | 1, h => by
      have h : some "OverflowError" = some t := h
      cases h
      exact T.i_NoRule_OverflowError _ hn
    | 2, h => by
      have h : some "KeyError" = some t := h
      cases h
      exact T.i_NoRule_KeyError _ hn
    | 3, h => by
      have h : some "LookupError" = some t := h
      cases h
      exact T.i_NoRule_LookupError _ hn
    | 4, h => by
      have h : some "RuntimeError" = some t := h
      cases h
      exact T.i_NoRule_RuntimeError _ hn
    | 5, h => by
      have h : some "IndexError" = some t := h
      cases h
      exact T.i_NoRule_IndexError _ hn
    | n + 6, h => by simp [tyL] at h
  fl := fun f h => nomatch h
theorem kf_7 {K : PySem.W.Frag} {w : World} {mg : Str → Option Value} (T : Txt K w mg) (C : Addr) (hn : PySem.W.nsIn K mainGlobals "NoNumber" = some (some (.ref C))) : KF K C 7 where
  ec := T.e_NoNumber _ hn
  own := fun j x D h hD => match j, h with
    | 0, h => by
      have h : some (Str.ofString "NoFields") = some x := h
      cases h
      exact T.i_NoNumber_NoFields _ _ hn hD
    | 1, h => by
      have h : some (Str.ofString "NoBounds") = some x := h
      cases h
      exact T.i_NoNumber_NoBounds _ _ hn hD
    | 2, h => by
      have h : some (Str.ofString "NoOffset") = some x := h
      cases h
      exact T.i_NoNumber_NoOffset _ _ hn hD
    | 3, h => by
      have h : some (Str.ofString "NoAddress") = some x := h
      cases h
      exact T.i_NoNumber_NoAddress _ _ hn hD
    | 4, h => by
      have h : some (Str.ofString "NoWord") = some x := h
      cases h
      exact T.i_NoNumber_NoWord _ _ hn hD
    | 5, h => by
      have h : some (Str.ofString "NoHands") = some x := h
      cases h
      exact T.i_NoNumber_NoHands _ _ hn hD
    | 6, h => by
      have h : some (Str.ofString "NoRule") = some x := h
      cases h
      exact T.i_NoNumber_NoRule _ _ hn hD
    | 7, h => by
      have h : some (Str.ofString "NoNumber") = some x := h
      cases h
      exact T.i_NoNumber_NoNumber _ _ hn hD
    | 8, h => by
      have h : some (Str.ofString "NoLine") = some x := h
      cases h
      exact T.i_NoNumber_NoLine _ _ hn hD
    | 9, h => by
      have h : some (Str.ofString "Sweeping") = some x := h
      cases h
      exact T.i_NoNumber_Sweeping _ _ hn hD
    | 10, h => by
      have h : some (Str.ofString "NoSweep") = some x := h
      cases h
      exact T.i_NoNumber_NoSweep _ _ hn hD
    | 11, h => by
      have h : some (Str.ofString "Fault") = some x := h
      cases h
      exact T.i_NoNumber_Fault _ _ hn hD
    | 12, h => by
      have h : some (Str.ofString "NoRows") = some x := h
      cases h
      exact T.i_NoNumber_NoRows _ _ hn hD
    | 13, h => by
      have h : some (Str.ofString "NoText") = some x := h
      cases h
      exact T.i_NoNumber_NoText _ _ hn hD
    | 14, h => by
      have h : some (Str.ofString "NoDeeds") = some x := h
      cases h
      exact T.i_NoNumber_NoDeeds _ _ hn hD
    | 15, h => by
      have h : some (Str.ofString "NoName") = some x := h
      cases h
      exact T.i_NoNumber_NoName _ _ hn hD
    | 16, h => by
      have h : some (Str.ofString "TooMany") = some x := h
      cases h
      exact T.i_NoNumber_TooMany _ _ hn hD
    | 17, h => by
      have h : some (Str.ofString "NoCompartment") = some x := h
      cases h
      exact T.i_NoNumber_NoCompartment _ _ hn hD
    | n + 18, h => by simp [namesL] at h
  re := fun D hD => T.i_NoNumber_ReachError _ _ hn hD
  ty := fun j t h => match j, h with
    | 0, h => by
      have h : some "ValueError" = some t := h
      cases h
      exact T.i_NoNumber_ValueError _ hn
    | 1, h => by
      have h : some "OverflowError" = some t := h
      cases h
      exact T.i_NoNumber_OverflowError _ hn
    | 2, h => by
      have h : some "KeyError" = some t := h
      cases h
      exact T.i_NoNumber_KeyError _ hn
    | 3, h => by
      have h : some "LookupError" = some t := h
      cases h
      exact T.i_NoNumber_LookupError _ hn
    | 4, h => by
      have h : some "RuntimeError" = some t := h
      cases h
      exact T.i_NoNumber_RuntimeError _ hn
    | 5, h => by
      have h : some "IndexError" = some t := h
      cases h
      exact T.i_NoNumber_IndexError _ hn
    | n + 6, h => by simp [tyL] at h
  fl := fun f h => nomatch h
theorem kf_8 {K : PySem.W.Frag} {w : World} {mg : Str → Option Value} (T : Txt K w mg) (C : Addr) (hn : PySem.W.nsIn K mainGlobals "NoLine" = some (some (.ref C))) : KF K C 8 where
  ec := T.e_NoLine _ hn
  own := fun j x D h hD => match j, h with
    | 0, h => by
      have h : some (Str.ofString "NoFields") = some x := h
      cases h
      exact T.i_NoLine_NoFields _ _ hn hD
    | 1, h => by
      have h : some (Str.ofString "NoBounds") = some x := h
      cases h
      exact T.i_NoLine_NoBounds _ _ hn hD
    | 2, h => by
      have h : some (Str.ofString "NoOffset") = some x := h
      cases h
      exact T.i_NoLine_NoOffset _ _ hn hD
    | 3, h => by
      have h : some (Str.ofString "NoAddress") = some x := h
      cases h
      exact T.i_NoLine_NoAddress _ _ hn hD
    | 4, h => by
      have h : some (Str.ofString "NoWord") = some x := h
      cases h
      exact T.i_NoLine_NoWord _ _ hn hD
    | 5, h => by
      have h : some (Str.ofString "NoHands") = some x := h
      cases h
      exact T.i_NoLine_NoHands _ _ hn hD
    | 6, h => by
      have h : some (Str.ofString "NoRule") = some x := h
      cases h
      exact T.i_NoLine_NoRule _ _ hn hD
    | 7, h => by
      have h : some (Str.ofString "NoNumber") = some x := h
      cases h
      exact T.i_NoLine_NoNumber _ _ hn hD
    | 8, h => by
      have h : some (Str.ofString "NoLine") = some x := h
      cases h
      exact T.i_NoLine_NoLine _ _ hn hD
    | 9, h => by
      have h : some (Str.ofString "Sweeping") = some x := h
      cases h
      exact T.i_NoLine_Sweeping _ _ hn hD
    | 10, h => by
      have h : some (Str.ofString "NoSweep") = some x := h
      cases h
      exact T.i_NoLine_NoSweep _ _ hn hD
    | 11, h => by
      have h : some (Str.ofString "Fault") = some x := h
      cases h
      exact T.i_NoLine_Fault _ _ hn hD
    | 12, h => by
      have h : some (Str.ofString "NoRows") = some x := h
      cases h
      exact T.i_NoLine_NoRows _ _ hn hD
    | 13, h => by
      have h : some (Str.ofString "NoText") = some x := h
      cases h
      exact T.i_NoLine_NoText _ _ hn hD
    | 14, h => by
      have h : some (Str.ofString "NoDeeds") = some x := h
      cases h
      exact T.i_NoLine_NoDeeds _ _ hn hD
    | 15, h => by
      have h : some (Str.ofString "NoName") = some x := h
      cases h
      exact T.i_NoLine_NoName _ _ hn hD
    | 16, h => by
      have h : some (Str.ofString "TooMany") = some x := h
      cases h
      exact T.i_NoLine_TooMany _ _ hn hD
    | 17, h => by
      have h : some (Str.ofString "NoCompartment") = some x := h
      cases h
      exact T.i_NoLine_NoCompartment _ _ hn hD
    | n + 18, h => by simp [namesL] at h
  re := fun D hD => T.i_NoLine_ReachError _ _ hn hD
  ty := fun j t h => match j, h with
    | 0, h => by
      have h : some "ValueError" = some t := h
      cases h
      exact T.i_NoLine_ValueError _ hn
    | 1, h => by
      have h : some "OverflowError" = some t := h
      cases h
      exact T.i_NoLine_OverflowError _ hn
    | 2, h => by
      have h : some "KeyError" = some t := h
      cases h
      exact T.i_NoLine_KeyError _ hn
    | 3, h => by
      have h : some "LookupError" = some t := h
      cases h
      exact T.i_NoLine_LookupError _ hn
    | 4, h => by
      have h : some "RuntimeError" = some t := h
      cases h
      exact T.i_NoLine_RuntimeError _ hn
    | 5, h => by
      have h : some "IndexError" = some t := h
      cases h
      exact T.i_NoLine_IndexError _ hn
    | n + 6, h => by simp [tyL] at h
  fl := fun f h => nomatch h
theorem kf_9 {K : PySem.W.Frag} {w : World} {mg : Str → Option Value} (T : Txt K w mg) (C : Addr) (hn : PySem.W.nsIn K mainGlobals "Sweeping" = some (some (.ref C))) : KF K C 9 where
  ec := T.e_Sweeping _ hn
  own := fun j x D h hD => match j, h with
    | 0, h => by
      have h : some (Str.ofString "NoFields") = some x := h
      cases h
      exact T.i_Sweeping_NoFields _ _ hn hD
    | 1, h => by
      have h : some (Str.ofString "NoBounds") = some x := h
      cases h
      exact T.i_Sweeping_NoBounds _ _ hn hD
    | 2, h => by
      have h : some (Str.ofString "NoOffset") = some x := h
      cases h
      exact T.i_Sweeping_NoOffset _ _ hn hD
    | 3, h => by
      have h : some (Str.ofString "NoAddress") = some x := h
      cases h
      exact T.i_Sweeping_NoAddress _ _ hn hD
    | 4, h => by
      have h : some (Str.ofString "NoWord") = some x := h
      cases h
      exact T.i_Sweeping_NoWord _ _ hn hD
    | 5, h => by
      have h : some (Str.ofString "NoHands") = some x := h
      cases h
      exact T.i_Sweeping_NoHands _ _ hn hD
    | 6, h => by
      have h : some (Str.ofString "NoRule") = some x := h
      cases h
      exact T.i_Sweeping_NoRule _ _ hn hD
    | 7, h => by
      have h : some (Str.ofString "NoNumber") = some x := h
      cases h
      exact T.i_Sweeping_NoNumber _ _ hn hD
    | 8, h => by
      have h : some (Str.ofString "NoLine") = some x := h
      cases h
      exact T.i_Sweeping_NoLine _ _ hn hD
    | 9, h => by
      have h : some (Str.ofString "Sweeping") = some x := h
      cases h
      exact T.i_Sweeping_Sweeping _ _ hn hD
    | 10, h => by
      have h : some (Str.ofString "NoSweep") = some x := h
      cases h
      exact T.i_Sweeping_NoSweep _ _ hn hD
    | 11, h => by
      have h : some (Str.ofString "Fault") = some x := h
      cases h
      exact T.i_Sweeping_Fault _ _ hn hD
    | 12, h => by
      have h : some (Str.ofString "NoRows") = some x := h
      cases h
      exact T.i_Sweeping_NoRows _ _ hn hD
    | 13, h => by
      have h : some (Str.ofString "NoText") = some x := h
      cases h
      exact T.i_Sweeping_NoText _ _ hn hD
    | 14, h => by
      have h : some (Str.ofString "NoDeeds") = some x := h
      cases h
      exact T.i_Sweeping_NoDeeds _ _ hn hD
    | 15, h => by
      have h : some (Str.ofString "NoName") = some x := h
      cases h
      exact T.i_Sweeping_NoName _ _ hn hD
    | 16, h => by
      have h : some (Str.ofString "TooMany") = some x := h
      cases h
      exact T.i_Sweeping_TooMany _ _ hn hD
    | 17, h => by
      have h : some (Str.ofString "NoCompartment") = some x := h
      cases h
      exact T.i_Sweeping_NoCompartment _ _ hn hD
    | n + 18, h => by simp [namesL] at h
  re := fun D hD => T.i_Sweeping_ReachError _ _ hn hD
  ty := fun j t h => match j, h with
    | 0, h => by
      have h : some "ValueError" = some t := h
      cases h
      exact T.i_Sweeping_ValueError _ hn
    | 1, h => by
      have h : some "OverflowError" = some t := h
      cases h
      exact T.i_Sweeping_OverflowError _ hn
    | 2, h => by
      have h : some "KeyError" = some t := h
      cases h
      exact T.i_Sweeping_KeyError _ hn
    | 3, h => by
      have h : some "LookupError" = some t := h
      cases h
      exact T.i_Sweeping_LookupError _ hn
    | 4, h => by
      have h : some "RuntimeError" = some t := h
      cases h
      exact T.i_Sweeping_RuntimeError _ hn
    | 5, h => by
      have h : some "IndexError" = some t := h
      cases h
      exact T.i_Sweeping_IndexError _ hn
    | n + 6, h => by simp [tyL] at h
  fl := fun f h => nomatch h
theorem kf_10 {K : PySem.W.Frag} {w : World} {mg : Str → Option Value} (T : Txt K w mg) (C : Addr) (hn : PySem.W.nsIn K mainGlobals "NoSweep" = some (some (.ref C))) : KF K C 10 where
  ec := T.e_NoSweep _ hn
  own := fun j x D h hD => match j, h with
    | 0, h => by
      have h : some (Str.ofString "NoFields") = some x := h
      cases h
      exact T.i_NoSweep_NoFields _ _ hn hD
    | 1, h => by
      have h : some (Str.ofString "NoBounds") = some x := h
      cases h
      exact T.i_NoSweep_NoBounds _ _ hn hD
    | 2, h => by
      have h : some (Str.ofString "NoOffset") = some x := h
      cases h
      exact T.i_NoSweep_NoOffset _ _ hn hD
    | 3, h => by
      have h : some (Str.ofString "NoAddress") = some x := h
      cases h
      exact T.i_NoSweep_NoAddress _ _ hn hD
    | 4, h => by
      have h : some (Str.ofString "NoWord") = some x := h
      cases h
      exact T.i_NoSweep_NoWord _ _ hn hD
    | 5, h => by
      have h : some (Str.ofString "NoHands") = some x := h
      cases h
      exact T.i_NoSweep_NoHands _ _ hn hD
    | 6, h => by
      have h : some (Str.ofString "NoRule") = some x := h
      cases h
      exact T.i_NoSweep_NoRule _ _ hn hD
    | 7, h => by
      have h : some (Str.ofString "NoNumber") = some x := h
      cases h
      exact T.i_NoSweep_NoNumber _ _ hn hD
    | 8, h => by
      have h : some (Str.ofString "NoLine") = some x := h
      cases h
      exact T.i_NoSweep_NoLine _ _ hn hD
    | 9, h => by
      have h : some (Str.ofString "Sweeping") = some x := h
      cases h
      exact T.i_NoSweep_Sweeping _ _ hn hD
    | 10, h => by
      have h : some (Str.ofString "NoSweep") = some x := h
      cases h
      exact T.i_NoSweep_NoSweep _ _ hn hD
    | 11, h => by
      have h : some (Str.ofString "Fault") = some x := h
      cases h
      exact T.i_NoSweep_Fault _ _ hn hD
    | 12, h => by
      have h : some (Str.ofString "NoRows") = some x := h
      cases h
      exact T.i_NoSweep_NoRows _ _ hn hD
    | 13, h => by
      have h : some (Str.ofString "NoText") = some x := h
      cases h
      exact T.i_NoSweep_NoText _ _ hn hD
    | 14, h => by
      have h : some (Str.ofString "NoDeeds") = some x := h
      cases h
      exact T.i_NoSweep_NoDeeds _ _ hn hD
    | 15, h => by
      have h : some (Str.ofString "NoName") = some x := h
      cases h
      exact T.i_NoSweep_NoName _ _ hn hD
    | 16, h => by
      have h : some (Str.ofString "TooMany") = some x := h
      cases h
      exact T.i_NoSweep_TooMany _ _ hn hD
    | 17, h => by
      have h : some (Str.ofString "NoCompartment") = some x := h
      cases h
      exact T.i_NoSweep_NoCompartment _ _ hn hD
    | n + 18, h => by simp [namesL] at h
  re := fun D hD => T.i_NoSweep_ReachError _ _ hn hD
  ty := fun j t h => match j, h with
    | 0, h => by
      have h : some "ValueError" = some t := h
      cases h
      exact T.i_NoSweep_ValueError _ hn
    | 1, h => by
      have h : some "OverflowError" = some t := h
      cases h
      exact T.i_NoSweep_OverflowError _ hn
    | 2, h => by
      have h : some "KeyError" = some t := h
      cases h
      exact T.i_NoSweep_KeyError _ hn
    | 3, h => by
      have h : some "LookupError" = some t := h
      cases h
      exact T.i_NoSweep_LookupError _ hn
    | 4, h => by
      have h : some "RuntimeError" = some t := h
      cases h
      exact T.i_NoSweep_RuntimeError _ hn
    | 5, h => by
      have h : some "IndexError" = some t := h
      cases h
      exact T.i_NoSweep_IndexError _ hn
    | n + 6, h => by simp [tyL] at h
  fl := fun f h => nomatch h
theorem kf_11 {K : PySem.W.Frag} {w : World} {mg : Str → Option Value} (T : Txt K w mg) (C : Addr) (hn : PySem.W.nsIn K mainGlobals "Fault" = some (some (.ref C))) : KF K C 11 where
  ec := T.e_Fault _ hn
  own := fun j x D h hD => match j, h with
    | 0, h => by
      have h : some (Str.ofString "NoFields") = some x := h
      cases h
      exact T.i_Fault_NoFields _ _ hn hD
    | 1, h => by
      have h : some (Str.ofString "NoBounds") = some x := h
      cases h
      exact T.i_Fault_NoBounds _ _ hn hD
    | 2, h => by
      have h : some (Str.ofString "NoOffset") = some x := h
      cases h
      exact T.i_Fault_NoOffset _ _ hn hD
    | 3, h => by
      have h : some (Str.ofString "NoAddress") = some x := h
      cases h
      exact T.i_Fault_NoAddress _ _ hn hD
    | 4, h => by
      have h : some (Str.ofString "NoWord") = some x := h
      cases h
      exact T.i_Fault_NoWord _ _ hn hD
    | 5, h => by
      have h : some (Str.ofString "NoHands") = some x := h
      cases h
      exact T.i_Fault_NoHands _ _ hn hD
    | 6, h => by
      have h : some (Str.ofString "NoRule") = some x := h
      cases h
      exact T.i_Fault_NoRule _ _ hn hD
    | 7, h => by
      have h : some (Str.ofString "NoNumber") = some x := h
      cases h
      exact T.i_Fault_NoNumber _ _ hn hD
    | 8, h => by
      have h : some (Str.ofString "NoLine") = some x := h
      cases h
      exact T.i_Fault_NoLine _ _ hn hD
    | 9, h => by
      have h : some (Str.ofString "Sweeping") = some x := h
      cases h
      exact T.i_Fault_Sweeping _ _ hn hD
    | 10, h => by
      have h : some (Str.ofString "NoSweep") = some x := h
      cases h
      exact T.i_Fault_NoSweep _ _ hn hD
    | 11, h => by
      have h : some (Str.ofString "Fault") = some x := h
      cases h
      exact T.i_Fault_Fault _ _ hn hD
    | 12, h => by
      have h : some (Str.ofString "NoRows") = some x := h
      cases h
      exact T.i_Fault_NoRows _ _ hn hD
    | 13, h => by
      have h : some (Str.ofString "NoText") = some x := h
      cases h
      exact T.i_Fault_NoText _ _ hn hD
    | 14, h => by
      have h : some (Str.ofString "NoDeeds") = some x := h
      cases h
      exact T.i_Fault_NoDeeds _ _ hn hD
    | 15, h => by
      have h : some (Str.ofString "NoName") = some x := h
      cases h
      exact T.i_Fault_NoName _ _ hn hD
    | 16, h => by
      have h : some (Str.ofString "TooMany") = some x := h
      cases h
      exact T.i_Fault_TooMany _ _ hn hD
    | 17, h => by
      have h : some (Str.ofString "NoCompartment") = some x := h
      cases h
      exact T.i_Fault_NoCompartment _ _ hn hD
    | n + 18, h => by simp [namesL] at h
  re := fun D hD => T.i_Fault_ReachError _ _ hn hD
  ty := fun j t h => match j, h with
    | 0, h => by
      have h : some "ValueError" = some t := h
      cases h
      exact T.i_Fault_ValueError _ hn
    | 1, h => by
      have h : some "OverflowError" = some t := h
      cases h
      exact T.i_Fault_OverflowError _ hn
    | 2, h => by
      have h : some "KeyError" = some t := h
      cases h
      exact T.i_Fault_KeyError _ hn
    | 3, h => by
      have h : some "LookupError" = some t := h
      cases h
      exact T.i_Fault_LookupError _ hn
    | 4, h => by
      have h : some "RuntimeError" = some t := h
      cases h
      exact T.i_Fault_RuntimeError _ hn
    | 5, h => by
      have h : some "IndexError" = some t := h
      cases h
      exact T.i_Fault_IndexError _ hn
    | n + 6, h => by simp [tyL] at h
  fl := fun f h => by
    rw [List.mem_singleton.mp (show f ∈ [Str.ofString "word"] from h)]
    exact T.f_Fault_word _ hn
theorem kf_12 {K : PySem.W.Frag} {w : World} {mg : Str → Option Value} (T : Txt K w mg) (C : Addr) (hn : PySem.W.nsIn K mainGlobals "NoRows" = some (some (.ref C))) : KF K C 12 where
  ec := T.e_NoRows _ hn
  own := fun j x D h hD => match j, h with
    | 0, h => by
      have h : some (Str.ofString "NoFields") = some x := h
      cases h
      exact T.i_NoRows_NoFields _ _ hn hD
    | 1, h => by
      have h : some (Str.ofString "NoBounds") = some x := h
      cases h
      exact T.i_NoRows_NoBounds _ _ hn hD
    | 2, h => by
      have h : some (Str.ofString "NoOffset") = some x := h
      cases h
      exact T.i_NoRows_NoOffset _ _ hn hD
    | 3, h => by
      have h : some (Str.ofString "NoAddress") = some x := h
      cases h
      exact T.i_NoRows_NoAddress _ _ hn hD
    | 4, h => by
      have h : some (Str.ofString "NoWord") = some x := h
      cases h
      exact T.i_NoRows_NoWord _ _ hn hD
    | 5, h => by
      have h : some (Str.ofString "NoHands") = some x := h
      cases h
      exact T.i_NoRows_NoHands _ _ hn hD
    | 6, h => by
      have h : some (Str.ofString "NoRule") = some x := h
      cases h
      exact T.i_NoRows_NoRule _ _ hn hD
    | 7, h => by
      have h : some (Str.ofString "NoNumber") = some x := h
      cases h
      exact T.i_NoRows_NoNumber _ _ hn hD
    | 8, h => by
      have h : some (Str.ofString "NoLine") = some x := h
      cases h
      exact T.i_NoRows_NoLine _ _ hn hD
    | 9, h => by
      have h : some (Str.ofString "Sweeping") = some x := h
      cases h
      exact T.i_NoRows_Sweeping _ _ hn hD
    | 10, h => by
      have h : some (Str.ofString "NoSweep") = some x := h
      cases h
      exact T.i_NoRows_NoSweep _ _ hn hD
    | 11, h => by
      have h : some (Str.ofString "Fault") = some x := h
      cases h
      exact T.i_NoRows_Fault _ _ hn hD
    | 12, h => by
      have h : some (Str.ofString "NoRows") = some x := h
      cases h
      exact T.i_NoRows_NoRows _ _ hn hD
    | 13, h => by
      have h : some (Str.ofString "NoText") = some x := h
      cases h
      exact T.i_NoRows_NoText _ _ hn hD
    | 14, h => by
      have h : some (Str.ofString "NoDeeds") = some x := h
      cases h
      exact T.i_NoRows_NoDeeds _ _ hn hD
    | 15, h => by
      have h : some (Str.ofString "NoName") = some x := h
      cases h
      exact T.i_NoRows_NoName _ _ hn hD
    | 16, h => by
      have h : some (Str.ofString "TooMany") = some x := h
      cases h
      exact T.i_NoRows_TooMany _ _ hn hD
    | 17, h => by
      have h : some (Str.ofString "NoCompartment") = some x := h
      cases h
      exact T.i_NoRows_NoCompartment _ _ hn hD
    | n + 18, h => by simp [namesL] at h
  re := fun D hD => T.i_NoRows_ReachError _ _ hn hD
  ty := fun j t h => match j, h with
    | 0, h => by
      have h : some "ValueError" = some t := h
      cases h
      exact T.i_NoRows_ValueError _ hn
    | 1, h => by
      have h : some "OverflowError" = some t := h
      cases h
      exact T.i_NoRows_OverflowError _ hn
    | 2, h => by
      have h : some "KeyError" = some t := h
      cases h
      exact T.i_NoRows_KeyError _ hn
    | 3, h => by
      have h : some "LookupError" = some t := h
      cases h
      exact T.i_NoRows_LookupError _ hn
    | 4, h => by
      have h : some "RuntimeError" = some t := h
      cases h
      exact T.i_NoRows_RuntimeError _ hn
    | 5, h => by
      have h : some "IndexError" = some t := h
      cases h
      exact T.i_NoRows_IndexError _ hn
    | n + 6, h => by simp [tyL] at h
  fl := fun f h => by
    rw [List.mem_singleton.mp (show f ∈ [Str.ofString "number"] from h)]
    exact T.f_NoRows_number _ hn
theorem kf_13 {K : PySem.W.Frag} {w : World} {mg : Str → Option Value} (T : Txt K w mg) (C : Addr) (hn : PySem.W.nsIn K mainGlobals "NoText" = some (some (.ref C))) : KF K C 13 where
  ec := T.e_NoText _ hn
  own := fun j x D h hD => match j, h with
    | 0, h => by
      have h : some (Str.ofString "NoFields") = some x := h
      cases h
      exact T.i_NoText_NoFields _ _ hn hD
    | 1, h => by
      have h : some (Str.ofString "NoBounds") = some x := h
      cases h
      exact T.i_NoText_NoBounds _ _ hn hD
    | 2, h => by
      have h : some (Str.ofString "NoOffset") = some x := h
      cases h
      exact T.i_NoText_NoOffset _ _ hn hD
    | 3, h => by
      have h : some (Str.ofString "NoAddress") = some x := h
      cases h
      exact T.i_NoText_NoAddress _ _ hn hD
    | 4, h => by
      have h : some (Str.ofString "NoWord") = some x := h
      cases h
      exact T.i_NoText_NoWord _ _ hn hD
    | 5, h => by
      have h : some (Str.ofString "NoHands") = some x := h
      cases h
      exact T.i_NoText_NoHands _ _ hn hD
    | 6, h => by
      have h : some (Str.ofString "NoRule") = some x := h
      cases h
      exact T.i_NoText_NoRule _ _ hn hD
    | 7, h => by
      have h : some (Str.ofString "NoNumber") = some x := h
      cases h
      exact T.i_NoText_NoNumber _ _ hn hD
    | 8, h => by
      have h : some (Str.ofString "NoLine") = some x := h
      cases h
      exact T.i_NoText_NoLine _ _ hn hD
    | 9, h => by
      have h : some (Str.ofString "Sweeping") = some x := h
      cases h
      exact T.i_NoText_Sweeping _ _ hn hD
    | 10, h => by
      have h : some (Str.ofString "NoSweep") = some x := h
      cases h
      exact T.i_NoText_NoSweep _ _ hn hD
    | 11, h => by
      have h : some (Str.ofString "Fault") = some x := h
      cases h
      exact T.i_NoText_Fault _ _ hn hD
    | 12, h => by
      have h : some (Str.ofString "NoRows") = some x := h
      cases h
      exact T.i_NoText_NoRows _ _ hn hD
    | 13, h => by
      have h : some (Str.ofString "NoText") = some x := h
      cases h
      exact T.i_NoText_NoText _ _ hn hD
    | 14, h => by
      have h : some (Str.ofString "NoDeeds") = some x := h
      cases h
      exact T.i_NoText_NoDeeds _ _ hn hD
    | 15, h => by
      have h : some (Str.ofString "NoName") = some x := h
      cases h
      exact T.i_NoText_NoName _ _ hn hD
    | 16, h => by
      have h : some (Str.ofString "TooMany") = some x := h
      cases h
      exact T.i_NoText_TooMany _ _ hn hD
    | 17, h => by
      have h : some (Str.ofString "NoCompartment") = some x := h
      cases h
      exact T.i_NoText_NoCompartment _ _ hn hD
    | n + 18, h => by simp [namesL] at h
  re := fun D hD => T.i_NoText_ReachError _ _ hn hD
  ty := fun j t h => match j, h with
    | 0, h => by
      have h : some "ValueError" = some t := h
      cases h
      exact T.i_NoText_ValueError _ hn
    | 1, h => by
      have h : some "OverflowError" = some t := h
      cases h
      exact T.i_NoText_OverflowError _ hn
    | 2, h => by
      have h : some "KeyError" = some t := h
      cases h
      exact T.i_NoText_KeyError _ hn
    | 3, h => by
      have h : some "LookupError" = some t := h
      cases h
      exact T.i_NoText_LookupError _ hn
    | 4, h => by
      have h : some "RuntimeError" = some t := h
      cases h
      exact T.i_NoText_RuntimeError _ hn
    | 5, h => by
      have h : some "IndexError" = some t := h
      cases h
      exact T.i_NoText_IndexError _ hn
    | n + 6, h => by simp [tyL] at h
  fl := fun f h => by
    rw [List.mem_singleton.mp (show f ∈ [Str.ofString "number"] from h)]
    exact T.f_NoText_number _ hn
theorem kf_14 {K : PySem.W.Frag} {w : World} {mg : Str → Option Value} (T : Txt K w mg) (C : Addr) (hn : PySem.W.nsIn K mainGlobals "NoDeeds" = some (some (.ref C))) : KF K C 14 where
  ec := T.e_NoDeeds _ hn
  own := fun j x D h hD => match j, h with
    | 0, h => by
      have h : some (Str.ofString "NoFields") = some x := h
      cases h
      exact T.i_NoDeeds_NoFields _ _ hn hD
    | 1, h => by
      have h : some (Str.ofString "NoBounds") = some x := h
      cases h
      exact T.i_NoDeeds_NoBounds _ _ hn hD
    | 2, h => by
      have h : some (Str.ofString "NoOffset") = some x := h
      cases h
      exact T.i_NoDeeds_NoOffset _ _ hn hD
    | 3, h => by
      have h : some (Str.ofString "NoAddress") = some x := h
      cases h
      exact T.i_NoDeeds_NoAddress _ _ hn hD
    | 4, h => by
      have h : some (Str.ofString "NoWord") = some x := h
      cases h
      exact T.i_NoDeeds_NoWord _ _ hn hD
    | 5, h => by
      have h : some (Str.ofString "NoHands") = some x := h
      cases h
      exact T.i_NoDeeds_NoHands _ _ hn hD
    | 6, h => by
      have h : some (Str.ofString "NoRule") = some x := h
      cases h
      exact T.i_NoDeeds_NoRule _ _ hn hD
    | 7, h => by
      have h : some (Str.ofString "NoNumber") = some x := h
      cases h
      exact T.i_NoDeeds_NoNumber _ _ hn hD
    | 8, h => by
      have h : some (Str.ofString "NoLine") = some x := h
      cases h
      exact T.i_NoDeeds_NoLine _ _ hn hD
    | 9, h => by
      have h : some (Str.ofString "Sweeping") = some x := h
      cases h
      exact T.i_NoDeeds_Sweeping _ _ hn hD
    | 10, h => by
      have h : some (Str.ofString "NoSweep") = some x := h
      cases h
      exact T.i_NoDeeds_NoSweep _ _ hn hD
    | 11, h => by
      have h : some (Str.ofString "Fault") = some x := h
      cases h
      exact T.i_NoDeeds_Fault _ _ hn hD
    | 12, h => by
      have h : some (Str.ofString "NoRows") = some x := h
      cases h
      exact T.i_NoDeeds_NoRows _ _ hn hD
    | 13, h => by
      have h : some (Str.ofString "NoText") = some x := h
      cases h
      exact T.i_NoDeeds_NoText _ _ hn hD
    | 14, h => by
      have h : some (Str.ofString "NoDeeds") = some x := h
      cases h
      exact T.i_NoDeeds_NoDeeds _ _ hn hD
    | 15, h => by
      have h : some (Str.ofString "NoName") = some x := h
      cases h
      exact T.i_NoDeeds_NoName _ _ hn hD
    | 16, h => by
      have h : some (Str.ofString "TooMany") = some x := h
      cases h
      exact T.i_NoDeeds_TooMany _ _ hn hD
    | 17, h => by
      have h : some (Str.ofString "NoCompartment") = some x := h
      cases h
      exact T.i_NoDeeds_NoCompartment _ _ hn hD
    | n + 18, h => by simp [namesL] at h
  re := fun D hD => T.i_NoDeeds_ReachError _ _ hn hD
  ty := fun j t h => match j, h with
    | 0, h => by
      have h : some "ValueError" = some t := h
      cases h
      exact T.i_NoDeeds_ValueError _ hn
    | 1, h => by
      have h : some "OverflowError" = some t := h
      cases h
      exact T.i_NoDeeds_OverflowError _ hn
    | 2, h => by
      have h : some "KeyError" = some t := h
      cases h
      exact T.i_NoDeeds_KeyError _ hn
    | 3, h => by
      have h : some "LookupError" = some t := h
      cases h
      exact T.i_NoDeeds_LookupError _ hn
    | 4, h => by
      have h : some "RuntimeError" = some t := h
      cases h
      exact T.i_NoDeeds_RuntimeError _ hn
    | 5, h => by
      have h : some "IndexError" = some t := h
      cases h
      exact T.i_NoDeeds_IndexError _ hn
    | n + 6, h => by simp [tyL] at h
  fl := fun f h => by
    rw [List.mem_singleton.mp (show f ∈ [Str.ofString "number"] from h)]
    exact T.f_NoDeeds_number _ hn
theorem kf_15 {K : PySem.W.Frag} {w : World} {mg : Str → Option Value} (T : Txt K w mg) (C : Addr) (hn : PySem.W.nsIn K mainGlobals "NoName" = some (some (.ref C))) : KF K C 15 where
  ec := T.e_NoName _ hn
  own := fun j x D h hD => match j, h with
    | 0, h => by
      have h : some (Str.ofString "NoFields") = some x := h
      cases h
      exact T.i_NoName_NoFields _ _ hn hD
    | 1, h => by
      have h : some (Str.ofString "NoBounds") = some x := h
      cases h
      exact T.i_NoName_NoBounds _ _ hn hD
    | 2, h => by
      have h : some (Str.ofString "NoOffset") = some x := h
      cases h
      exact T.i_NoName_NoOffset _ _ hn hD
    | 3, h => by
      have h : some (Str.ofString "NoAddress") = some x := h
      cases h
      exact T.i_NoName_NoAddress _ _ hn hD
    | 4, h => by
      have h : some (Str.ofString "NoWord") = some x := h
      cases h
      exact T.i_NoName_NoWord _ _ hn hD
    | 5, h => by
      have h : some (Str.ofString "NoHands") = some x := h
      cases h
      exact T.i_NoName_NoHands _ _ hn hD
    | 6, h => by
      have h : some (Str.ofString "NoRule") = some x := h
      cases h
      exact T.i_NoName_NoRule _ _ hn hD
    | 7, h => by
      have h : some (Str.ofString "NoNumber") = some x := h
      cases h
      exact T.i_NoName_NoNumber _ _ hn hD
    | 8, h => by
      have h : some (Str.ofString "NoLine") = some x := h
      cases h
      exact T.i_NoName_NoLine _ _ hn hD
    | 9, h => by
      have h : some (Str.ofString "Sweeping") = some x := h
      cases h
      exact T.i_NoName_Sweeping _ _ hn hD
    | 10, h => by
      have h : some (Str.ofString "NoSweep") = some x := h
      cases h
      exact T.i_NoName_NoSweep _ _ hn hD
    | 11, h => by
      have h : some (Str.ofString "Fault") = some x := h
      cases h
      exact T.i_NoName_Fault _ _ hn hD
    | 12, h => by
      have h : some (Str.ofString "NoRows") = some x := h
      cases h
      exact T.i_NoName_NoRows _ _ hn hD
    | 13, h => by
      have h : some (Str.ofString "NoText") = some x := h
      cases h
      exact T.i_NoName_NoText _ _ hn hD
    | 14, h => by
      have h : some (Str.ofString "NoDeeds") = some x := h
      cases h
      exact T.i_NoName_NoDeeds _ _ hn hD
    | 15, h => by
      have h : some (Str.ofString "NoName") = some x := h
      cases h
      exact T.i_NoName_NoName _ _ hn hD
    | 16, h => by
      have h : some (Str.ofString "TooMany") = some x := h
      cases h
      exact T.i_NoName_TooMany _ _ hn hD
    | 17, h => by
      have h : some (Str.ofString "NoCompartment") = some x := h
      cases h
      exact T.i_NoName_NoCompartment _ _ hn hD
    | n + 18, h => by simp [namesL] at h
  re := fun D hD => T.i_NoName_ReachError _ _ hn hD
  ty := fun j t h => match j, h with
    | 0, h => by
      have h : some "ValueError" = some t := h
      cases h
      exact T.i_NoName_ValueError _ hn
    | 1, h => by
      have h : some "OverflowError" = some t := h
      cases h
      exact T.i_NoName_OverflowError _ hn
    | 2, h => by
      have h : some "KeyError" = some t := h
      cases h
      exact T.i_NoName_KeyError _ hn
    | 3, h => by
      have h : some "LookupError" = some t := h
      cases h
      exact T.i_NoName_LookupError _ hn
    | 4, h => by
      have h : some "RuntimeError" = some t := h
      cases h
      exact T.i_NoName_RuntimeError _ hn
    | 5, h => by
      have h : some "IndexError" = some t := h
      cases h
      exact T.i_NoName_IndexError _ hn
    | n + 6, h => by simp [tyL] at h
  fl := fun f h => by
    rw [List.mem_singleton.mp (show f ∈ [Str.ofString "name"] from h)]
    exact T.f_NoName_name _ hn
theorem kf_16 {K : PySem.W.Frag} {w : World} {mg : Str → Option Value} (T : Txt K w mg) (C : Addr) (hn : PySem.W.nsIn K mainGlobals "TooMany" = some (some (.ref C))) : KF K C 16 where
  ec := T.e_TooMany _ hn
  own := fun j x D h hD => match j, h with
    | 0, h => by
      have h : some (Str.ofString "NoFields") = some x := h
      cases h
      exact T.i_TooMany_NoFields _ _ hn hD
    | 1, h => by
      have h : some (Str.ofString "NoBounds") = some x := h
      cases h
      exact T.i_TooMany_NoBounds _ _ hn hD
    | 2, h => by
      have h : some (Str.ofString "NoOffset") = some x := h
      cases h
      exact T.i_TooMany_NoOffset _ _ hn hD
    | 3, h => by
      have h : some (Str.ofString "NoAddress") = some x := h
      cases h
      exact T.i_TooMany_NoAddress _ _ hn hD
    | 4, h => by
      have h : some (Str.ofString "NoWord") = some x := h
      cases h
      exact T.i_TooMany_NoWord _ _ hn hD
    | 5, h => by
      have h : some (Str.ofString "NoHands") = some x := h
      cases h
      exact T.i_TooMany_NoHands _ _ hn hD
    | 6, h => by
      have h : some (Str.ofString "NoRule") = some x := h
      cases h
      exact T.i_TooMany_NoRule _ _ hn hD
    | 7, h => by
      have h : some (Str.ofString "NoNumber") = some x := h
      cases h
      exact T.i_TooMany_NoNumber _ _ hn hD
    | 8, h => by
      have h : some (Str.ofString "NoLine") = some x := h
      cases h
      exact T.i_TooMany_NoLine _ _ hn hD
    | 9, h => by
      have h : some (Str.ofString "Sweeping") = some x := h
      cases h
      exact T.i_TooMany_Sweeping _ _ hn hD
    | 10, h => by
      have h : some (Str.ofString "NoSweep") = some x := h
      cases h
      exact T.i_TooMany_NoSweep _ _ hn hD
    | 11, h => by
      have h : some (Str.ofString "Fault") = some x := h
      cases h
      exact T.i_TooMany_Fault _ _ hn hD
    | 12, h => by
      have h : some (Str.ofString "NoRows") = some x := h
      cases h
      exact T.i_TooMany_NoRows _ _ hn hD
    | 13, h => by
      have h : some (Str.ofString "NoText") = some x := h
      cases h
      exact T.i_TooMany_NoText _ _ hn hD
    | 14, h => by
      have h : some (Str.ofString "NoDeeds") = some x := h
      cases h
      exact T.i_TooMany_NoDeeds _ _ hn hD
    | 15, h => by
      have h : some (Str.ofString "NoName") = some x := h
      cases h
      exact T.i_TooMany_NoName _ _ hn hD
    | 16, h => by
      have h : some (Str.ofString "TooMany") = some x := h
      cases h
      exact T.i_TooMany_TooMany _ _ hn hD
    | 17, h => by
      have h : some (Str.ofString "NoCompartment") = some x := h
      cases h
      exact T.i_TooMany_NoCompartment _ _ hn hD
    | n + 18, h => by simp [namesL] at h
  re := fun D hD => T.i_TooMany_ReachError _ _ hn hD
  ty := fun j t h => match j, h with
    | 0, h => by
      have h : some "ValueError" = some t := h
      cases h
      exact T.i_TooMany_ValueError _ hn
    | 1, h => by
      have h : some "OverflowError" = some t := h
      cases h
      exact T.i_TooMany_OverflowError _ hn
    | 2, h => by
      have h : some "KeyError" = some t := h
      cases h
      exact T.i_TooMany_KeyError _ hn
    | 3, h => by
      have h : some "LookupError" = some t := h
      cases h
      exact T.i_TooMany_LookupError _ hn
    | 4, h => by
      have h : some "RuntimeError" = some t := h
      cases h
      exact T.i_TooMany_RuntimeError _ hn
    | 5, h => by
      have h : some "IndexError" = some t := h
      cases h
      exact T.i_TooMany_IndexError _ hn
    | n + 6, h => by simp [tyL] at h
  fl := fun f h => by
    rw [List.mem_singleton.mp (show f ∈ [Str.ofString "size"] from h)]
    exact T.f_TooMany_size _ hn
theorem kf_17 {K : PySem.W.Frag} {w : World} {mg : Str → Option Value} (T : Txt K w mg) (C : Addr) (hn : PySem.W.nsIn K mainGlobals "NoCompartment" = some (some (.ref C))) : KF K C 17 where
  ec := T.e_NoCompartment _ hn
  own := fun j x D h hD => match j, h with
    | 0, h => by
      have h : some (Str.ofString "NoFields") = some x := h
      cases h
      exact T.i_NoCompartment_NoFields _ _ hn hD
    | 1, h => by
      have h : some (Str.ofString "NoBounds") = some x := h
      cases h
      exact T.i_NoCompartment_NoBounds _ _ hn hD
    | 2, h => by
      have h : some (Str.ofString "NoOffset") = some x := h
      cases h
      exact T.i_NoCompartment_NoOffset _ _ hn hD
    | 3, h => by
      have h : some (Str.ofString "NoAddress") = some x := h
      cases h
      exact T.i_NoCompartment_NoAddress _ _ hn hD
    | 4, h => by
      have h : some (Str.ofString "NoWord") = some x := h
      cases h
      exact T.i_NoCompartment_NoWord _ _ hn hD
    | 5, h => by
      have h : some (Str.ofString "NoHands") = some x := h
      cases h
      exact T.i_NoCompartment_NoHands _ _ hn hD
    | 6, h => by
      have h : some (Str.ofString "NoRule") = some x := h
      cases h
      exact T.i_NoCompartment_NoRule _ _ hn hD
    | 7, h => by
      have h : some (Str.ofString "NoNumber") = some x := h
      cases h
      exact T.i_NoCompartment_NoNumber _ _ hn hD
    | 8, h => by
      have h : some (Str.ofString "NoLine") = some x := h
      cases h
      exact T.i_NoCompartment_NoLine _ _ hn hD
    | 9, h => by
      have h : some (Str.ofString "Sweeping") = some x := h
      cases h
      exact T.i_NoCompartment_Sweeping _ _ hn hD
    | 10, h => by
      have h : some (Str.ofString "NoSweep") = some x := h
      cases h
      exact T.i_NoCompartment_NoSweep _ _ hn hD
    | 11, h => by
      have h : some (Str.ofString "Fault") = some x := h
      cases h
      exact T.i_NoCompartment_Fault _ _ hn hD
    | 12, h => by
      have h : some (Str.ofString "NoRows") = some x := h
      cases h
      exact T.i_NoCompartment_NoRows _ _ hn hD
    | 13, h => by
      have h : some (Str.ofString "NoText") = some x := h
      cases h
      exact T.i_NoCompartment_NoText _ _ hn hD
    | 14, h => by
      have h : some (Str.ofString "NoDeeds") = some x := h
      cases h
      exact T.i_NoCompartment_NoDeeds _ _ hn hD
    | 15, h => by
      have h : some (Str.ofString "NoName") = some x := h
      cases h
      exact T.i_NoCompartment_NoName _ _ hn hD
    | 16, h => by
      have h : some (Str.ofString "TooMany") = some x := h
      cases h
      exact T.i_NoCompartment_TooMany _ _ hn hD
    | 17, h => by
      have h : some (Str.ofString "NoCompartment") = some x := h
      cases h
      exact T.i_NoCompartment_NoCompartment _ _ hn hD
    | n + 18, h => by simp [namesL] at h
  re := fun D hD => T.i_NoCompartment_ReachError _ _ hn hD
  ty := fun j t h => match j, h with
    | 0, h => by
      have h : some "ValueError" = some t := h
      cases h
      exact T.i_NoCompartment_ValueError _ hn
    | 1, h => by
      have h : some "OverflowError" = some t := h
      cases h
      exact T.i_NoCompartment_OverflowError _ hn
    | 2, h => by
      have h : some "KeyError" = some t := h
      cases h
      exact T.i_NoCompartment_KeyError _ hn
    | 3, h => by
      have h : some "LookupError" = some t := h
      cases h
      exact T.i_NoCompartment_LookupError _ hn
    | 4, h => by
      have h : some "RuntimeError" = some t := h
      cases h
      exact T.i_NoCompartment_RuntimeError _ hn
    | 5, h => by
      have h : some "IndexError" = some t := h
      cases h
      exact T.i_NoCompartment_IndexError _ hn
    | n + 6, h => by simp [tyL] at h
  fl := fun f h => by
    rcases List.mem_cons.mp (show f ∈ [Str.ofString "number", Str.ofString "part"] from h) with e | e
    · rw [e]; exact T.f_NoCompartment_number _ hn
    · rw [List.mem_singleton.mp e]; exact T.f_NoCompartment_part _ hn
def sp__law_made (K : PySem.W.Frag) : Sp := fun vs H Q _ => ∃ (w : Nat) (u v : V), vs = [.int (w : Int), u, v] ∧ w < 18 ∧ ∀ a H', Same H H' → H a = none → ErAt K H' a w u v → Q (.ref a) H'
theorem ok__law_made {f : Addr} {fd : FuncData} (F : Fun K "_law_made" "_law_made" s__law_made f fd) (T : Txt K w mg) (R_Fault : ErrKG P w K mg base "Fault" "word") (R_NoAddress : ErrKG P w K mg base "NoAddress" "text") (R_NoBounds : ErrKG P w K mg base "NoBounds" "text") (R_NoCompartment : ErrK2G P w K mg base "NoCompartment" "number" "part") (R_NoDeeds : ErrKG P w K mg base "NoDeeds" "number") (R_NoFields : ErrKG P w K mg base "NoFields" "text") (R_NoHands : ErrKG P w K mg base "NoHands" "text") (R_NoLine : ErrKG P w K mg base "NoLine" "text") (R_NoName : ErrKG P w K mg base "NoName" "name") (R_NoNumber : ErrKG P w K mg base "NoNumber" "text") (R_NoOffset : ErrKG P w K mg base "NoOffset" "text") (R_NoRows : ErrKG P w K mg base "NoRows" "number") (R_NoRule : ErrKG P w K mg base "NoRule" "text") (R_NoSweep : ErrKG P w K mg base "NoSweep" "text") (R_NoText : ErrKG P w K mg base "NoText" "number") (R_NoWord : ErrKG P w K mg base "NoWord" "text") (R_Sweeping : ErrKG P w K mg base "Sweeping" "text") (R_TooMany : ErrKG P w K mg base "TooMany" "size") : FnOk P w K mg base CX0 3 f fd ["_law_which", "_law_one", "_law_other"] (sp__law_made K) := by
  refine F.ok sc__law_made (fun vs H Q E h => ?_) (fun cdv A outer s H vs Q E hr h => ?_)
  · obtain ⟨w0, u, v, rfl, hw, q⟩ := h; rfl
  · obtain ⟨w0, u, v, rfl, hw, q⟩ := h
    refine ⟨_, (pss_cons (ps_set (i := 3) sc__law_made.nd rfl (.inl rfl) (pe_lst (pa_cons (pe_errG R_NoFields (hr.mono (by decide)) pe_str) (pa_cons (pe_errG R_NoBounds (hr.mono (by decide)) pe_str) (pa_cons (pe_errG R_NoOffset (hr.mono (by decide)) pe_str) (pa_cons (pe_errG R_NoAddress (hr.mono (by decide)) pe_str) (pa_cons (pe_errG R_NoWord (hr.mono (by decide)) pe_str) (pa_cons (pe_errG R_NoHands (hr.mono (by decide)) pe_str) (pa_cons (pe_errG R_NoRule (hr.mono (by decide)) pe_str) pa_nil)))))))))
      (pss_cons (ps_set (i := 3) sc__law_made.nd rfl (.inl rfl) (pe_op op_cat (pv 3) (pe_lst (pa_cons (pe_errG R_NoNumber (hr.mono (by decide)) pe_str) (pa_cons (pe_errG R_NoLine (hr.mono (by decide)) pe_str) (pa_cons (pe_errG R_Sweeping (hr.mono (by decide)) pe_str) (pa_cons (pe_errG R_NoSweep (hr.mono (by decide)) pe_str) (pa_cons (pe_errG R_Fault (hr.mono (by decide)) (pv 1)) (pa_cons (pe_errG R_NoRows (hr.mono (by decide)) (pv 1)) (pa_cons (pe_errG R_NoText (hr.mono (by decide)) (pv 1)) pa_nil))))))))))
      (pss_one (ps_ret (pe_ix (r := rIxL K) ix_list (pe_op op_cat (pv 3) (pe_lst (pa_cons (pe_errG R_NoDeeds (hr.mono (by decide)) (pv 1)) (pa_cons (pe_errG R_NoName (hr.mono (by decide)) (pv 1)) (pa_cons (pe_errG R_TooMany (hr.mono (by decide)) (pv 1)) (pa_cons (pe_err2G R_NoCompartment (hr.mono (by decide)) (pv 1) (pv 2)) pa_nil)))))) (pv 0) (fun _ _ => rfl)))))), ?_⟩
    have M := MadeAt.nil (K := K) (u := u) (v := v) (H0 := H) (H := H)
    have S := Same.refl H
    have hl : ([] : List V).length = 0 := rfl
    refine fun C1 d1 a0 hC hd1 ha1 ne => ?_
    have MS := M.put hl S hd1 ha1 ne (kf_0 T C1 hC) (show [(Str.ofString "text", V.str (Str.ofString "a"))] = fldsL u v 0 from rfl)
    replace M := MS.1
    replace S := MS.2.1
    replace hl := MS.2.2
    clear MS
    generalize upd (upd H d1 _) a0 _ = G0 at M S ⊢
    clear hC hd1 ha1 ne C1 d1
    refine fun C1 d1 a1 hC hd1 ha1 ne => ?_
    have MS := M.put hl S hd1 ha1 ne (kf_1 T C1 hC) (show [(Str.ofString "text", V.str (Str.ofString "a"))] = fldsL u v 1 from rfl)
    replace M := MS.1
    replace S := MS.2.1
    replace hl := MS.2.2
    clear MS
    generalize upd (upd G0 d1 _) a1 _ = G1 at M S ⊢
    clear hC hd1 ha1 ne C1 d1
    refine fun C1 d1 a2 hC hd1 ha1 ne => ?_
    have MS := M.put hl S hd1 ha1 ne (kf_2 T C1 hC) (show [(Str.ofString "text", V.str (Str.ofString "a"))] = fldsL u v 2 from rfl)
    replace M := MS.1
    replace S := MS.2.1
    replace hl := MS.2.2
    clear MS
    generalize upd (upd G1 d1 _) a2 _ = G2 at M S ⊢
    clear hC hd1 ha1 ne C1 d1
    refine fun C1 d1 a3 hC hd1 ha1 ne => ?_
    have MS := M.put hl S hd1 ha1 ne (kf_3 T C1 hC) (show [(Str.ofString "text", V.str (Str.ofString "a"))] = fldsL u v 3 from rfl)
    replace M := MS.1
    replace S := MS.2.1
    replace hl := MS.2.2
    clear MS
    generalize upd (upd G2 d1 _) a3 _ = G3 at M S ⊢
    clear hC hd1 ha1 ne C1 d1
    refine fun C1 d1 a4 hC hd1 ha1 ne => ?_
    have MS := M.put hl S hd1 ha1 ne (kf_4 T C1 hC) (show [(Str.ofString "text", V.str (Str.ofString "a"))] = fldsL u v 4 from rfl)
    replace M := MS.1
    replace S := MS.2.1
    replace hl := MS.2.2
    clear MS
    generalize upd (upd G3 d1 _) a4 _ = G4 at M S ⊢
    clear hC hd1 ha1 ne C1 d1
    refine fun C1 d1 a5 hC hd1 ha1 ne => ?_
    have MS := M.put hl S hd1 ha1 ne (kf_5 T C1 hC) (show [(Str.ofString "text", V.str (Str.ofString "a"))] = fldsL u v 5 from rfl)
    replace M := MS.1
    replace S := MS.2.1
    replace hl := MS.2.2
    clear MS
    generalize upd (upd G4 d1 _) a5 _ = G5 at M S ⊢
    clear hC hd1 ha1 ne C1 d1
    refine fun C1 d1 a6 hC hd1 ha1 ne => ?_
    have MS := M.put hl S hd1 ha1 ne (kf_6 T C1 hC) (show [(Str.ofString "text", V.str (Str.ofString "a"))] = fldsL u v 6 from rfl)
    replace M := MS.1
    replace S := MS.2.1
    replace hl := MS.2.2
    clear MS
    generalize upd (upd G5 d1 _) a6 _ = G6 at M S ⊢
    clear hC hd1 ha1 ne C1 d1
    refine ⟨sz (by simp), fun p1 hp1 => ?_⟩
    have kk := same_new (H := G6) (o := .lst [V.ref a0, .ref a1, .ref a2, .ref a3, .ref a4, .ref a5, .ref a6]) hp1
    have ep1 : (upd G6 p1 (.lst [V.ref a0, .ref a1, .ref a2, .ref a3, .ref a4, .ref a5, .ref a6])) p1 = some (.lst [V.ref a0, .ref a1, .ref a2, .ref a3, .ref a4, .ref a5, .ref a6]) := upd_same
    replace M := M.same kk
    replace S := S.trans kk
    clear kk
    generalize upd G6 p1 _ = G7 at M S ep1 ⊢
    clear hp1
    refine ⟨_, rfl, fun C1 d1 a7 hC hd1 ha1 ne => ?_⟩
    have MS := M.put hl S hd1 ha1 ne (kf_7 T C1 hC) (show [(Str.ofString "text", V.str (Str.ofString "a"))] = fldsL u v 7 from rfl)
    replace M := MS.1
    replace S := MS.2.1
    replace hl := MS.2.2
    clear MS
    have kk : Same G7 (upd (upd G7 d1 (.xd [(Str.ofString "text", V.str (Str.ofString "a"))])) a7 (kept a7 (.ref C1) (some d1))) := (same_new hd1).trans (same_new (by rw [upd_ne ne]; exact ha1))
    replace ep1 := kk _ _ ep1
    clear kk
    generalize upd (upd G7 d1 _) a7 _ = G8 at M S ep1 ⊢
    clear hC hd1 ha1 ne C1 d1
    refine fun C1 d1 a8 hC hd1 ha1 ne => ?_
    have MS := M.put hl S hd1 ha1 ne (kf_8 T C1 hC) (show [(Str.ofString "text", V.str (Str.ofString "a"))] = fldsL u v 8 from rfl)
    replace M := MS.1
    replace S := MS.2.1
    replace hl := MS.2.2
    clear MS
    have kk : Same G8 (upd (upd G8 d1 (.xd [(Str.ofString "text", V.str (Str.ofString "a"))])) a8 (kept a8 (.ref C1) (some d1))) := (same_new hd1).trans (same_new (by rw [upd_ne ne]; exact ha1))
    replace ep1 := kk _ _ ep1
    clear kk
    generalize upd (upd G8 d1 _) a8 _ = G9 at M S ep1 ⊢
    clear hC hd1 ha1 ne C1 d1
    refine fun C1 d1 a9 hC hd1 ha1 ne => ?_
    have MS := M.put hl S hd1 ha1 ne (kf_9 T C1 hC) (show [(Str.ofString "text", V.str (Str.ofString "a"))] = fldsL u v 9 from rfl)
    replace M := MS.1
    replace S := MS.2.1
    replace hl := MS.2.2
    clear MS
    have kk : Same G9 (upd (upd G9 d1 (.xd [(Str.ofString "text", V.str (Str.ofString "a"))])) a9 (kept a9 (.ref C1) (some d1))) := (same_new hd1).trans (same_new (by rw [upd_ne ne]; exact ha1))
    replace ep1 := kk _ _ ep1
    clear kk
    generalize upd (upd G9 d1 _) a9 _ = G10 at M S ep1 ⊢
    clear hC hd1 ha1 ne C1 d1
    refine fun C1 d1 a10 hC hd1 ha1 ne => ?_
    have MS := M.put hl S hd1 ha1 ne (kf_10 T C1 hC) (show [(Str.ofString "text", V.str (Str.ofString "a"))] = fldsL u v 10 from rfl)
    replace M := MS.1
    replace S := MS.2.1
    replace hl := MS.2.2
    clear MS
    have kk : Same G10 (upd (upd G10 d1 (.xd [(Str.ofString "text", V.str (Str.ofString "a"))])) a10 (kept a10 (.ref C1) (some d1))) := (same_new hd1).trans (same_new (by rw [upd_ne ne]; exact ha1))
    replace ep1 := kk _ _ ep1
    clear kk
    generalize upd (upd G10 d1 _) a10 _ = G11 at M S ep1 ⊢
    clear hC hd1 ha1 ne C1 d1
    refine ⟨_, rfl, fun C1 d1 a11 hC hd1 ha1 ne => ?_⟩
    have MS := M.put hl S hd1 ha1 ne (kf_11 T C1 hC) (show [(Str.ofString "word", u)] = fldsL u v 11 from rfl)
    replace M := MS.1
    replace S := MS.2.1
    replace hl := MS.2.2
    clear MS
    have kk : Same G11 (upd (upd G11 d1 (.xd [(Str.ofString "word", u)])) a11 (kept a11 (.ref C1) (some d1))) := (same_new hd1).trans (same_new (by rw [upd_ne ne]; exact ha1))
    replace ep1 := kk _ _ ep1
    clear kk
    generalize upd (upd G11 d1 _) a11 _ = G12 at M S ep1 ⊢
    clear hC hd1 ha1 ne C1 d1
    refine ⟨_, rfl, fun C1 d1 a12 hC hd1 ha1 ne => ?_⟩
    have MS := M.put hl S hd1 ha1 ne (kf_12 T C1 hC) (show [(Str.ofString "number", u)] = fldsL u v 12 from rfl)
    replace M := MS.1
    replace S := MS.2.1
    replace hl := MS.2.2
    clear MS
    have kk : Same G12 (upd (upd G12 d1 (.xd [(Str.ofString "number", u)])) a12 (kept a12 (.ref C1) (some d1))) := (same_new hd1).trans (same_new (by rw [upd_ne ne]; exact ha1))
    replace ep1 := kk _ _ ep1
    clear kk
    generalize upd (upd G12 d1 _) a12 _ = G13 at M S ep1 ⊢
    clear hC hd1 ha1 ne C1 d1
    refine ⟨_, rfl, fun C1 d1 a13 hC hd1 ha1 ne => ?_⟩
    have MS := M.put hl S hd1 ha1 ne (kf_13 T C1 hC) (show [(Str.ofString "number", u)] = fldsL u v 13 from rfl)
    replace M := MS.1
    replace S := MS.2.1
    replace hl := MS.2.2
    clear MS
    have kk : Same G13 (upd (upd G13 d1 (.xd [(Str.ofString "number", u)])) a13 (kept a13 (.ref C1) (some d1))) := (same_new hd1).trans (same_new (by rw [upd_ne ne]; exact ha1))
    replace ep1 := kk _ _ ep1
    clear kk
    generalize upd (upd G13 d1 _) a13 _ = G14 at M S ep1 ⊢
    clear hC hd1 ha1 ne C1 d1
    refine ⟨sz (by simp), fun p2 hp2 => ?_⟩
    have kk := same_new (H := G14) (o := .lst [V.ref a7, .ref a8, .ref a9, .ref a10, .ref a11, .ref a12, .ref a13]) hp2
    have ep2 : (upd G14 p2 (.lst [V.ref a7, .ref a8, .ref a9, .ref a10, .ref a11, .ref a12, .ref a13])) p2 = some (.lst [V.ref a7, .ref a8, .ref a9, .ref a10, .ref a11, .ref a12, .ref a13]) := upd_same
    replace M := M.same kk
    replace S := S.trans kk
    replace ep1 := kk _ _ ep1
    clear kk
    generalize upd G14 p2 _ = G15 at M S ep2 ep1 ⊢
    clear hp2
    refine ⟨p1, p2, _, _, rfl, rfl, ep1, ep2, sz (by simp), fun p3 hp3 => ?_⟩
    have kk := same_new (H := G15) (o := .lst ([V.ref a0, .ref a1, .ref a2, .ref a3, .ref a4, .ref a5, .ref a6] ++ [V.ref a7, .ref a8, .ref a9, .ref a10, .ref a11, .ref a12, .ref a13])) hp3
    have ep3 : (upd G15 p3 (.lst ([V.ref a0, .ref a1, .ref a2, .ref a3, .ref a4, .ref a5, .ref a6] ++ [V.ref a7, .ref a8, .ref a9, .ref a10, .ref a11, .ref a12, .ref a13]))) p3 = some (.lst ([V.ref a0, .ref a1, .ref a2, .ref a3, .ref a4, .ref a5, .ref a6] ++ [V.ref a7, .ref a8, .ref a9, .ref a10, .ref a11, .ref a12, .ref a13])) := upd_same
    replace M := M.same kk
    replace S := S.trans kk
    clear kk
    generalize upd G15 p3 _ = G16 at M S ep3 ⊢
    clear hp3
    refine ⟨_, rfl, _, rfl, fun C1 d1 a14 hC hd1 ha1 ne => ?_⟩
    have MS := M.put hl S hd1 ha1 ne (kf_14 T C1 hC) (show [(Str.ofString "number", u)] = fldsL u v 14 from rfl)
    replace M := MS.1
    replace S := MS.2.1
    replace hl := MS.2.2
    clear MS
    have kk : Same G16 (upd (upd G16 d1 (.xd [(Str.ofString "number", u)])) a14 (kept a14 (.ref C1) (some d1))) := (same_new hd1).trans (same_new (by rw [upd_ne ne]; exact ha1))
    replace ep3 := kk _ _ ep3
    clear kk
    generalize upd (upd G16 d1 _) a14 _ = G17 at M S ep3 ⊢
    clear hC hd1 ha1 ne C1 d1
    refine ⟨_, rfl, fun C1 d1 a15 hC hd1 ha1 ne => ?_⟩
    have MS := M.put hl S hd1 ha1 ne (kf_15 T C1 hC) (show [(Str.ofString "name", u)] = fldsL u v 15 from rfl)
    replace M := MS.1
    replace S := MS.2.1
    replace hl := MS.2.2
    clear MS
    have kk : Same G17 (upd (upd G17 d1 (.xd [(Str.ofString "name", u)])) a15 (kept a15 (.ref C1) (some d1))) := (same_new hd1).trans (same_new (by rw [upd_ne ne]; exact ha1))
    replace ep3 := kk _ _ ep3
    clear kk
    generalize upd (upd G17 d1 _) a15 _ = G18 at M S ep3 ⊢
    clear hC hd1 ha1 ne C1 d1
    refine ⟨_, rfl, fun C1 d1 a16 hC hd1 ha1 ne => ?_⟩
    have MS := M.put hl S hd1 ha1 ne (kf_16 T C1 hC) (show [(Str.ofString "size", u)] = fldsL u v 16 from rfl)
    replace M := MS.1
    replace S := MS.2.1
    replace hl := MS.2.2
    clear MS
    have kk : Same G18 (upd (upd G18 d1 (.xd [(Str.ofString "size", u)])) a16 (kept a16 (.ref C1) (some d1))) := (same_new hd1).trans (same_new (by rw [upd_ne ne]; exact ha1))
    replace ep3 := kk _ _ ep3
    clear kk
    generalize upd (upd G18 d1 _) a16 _ = G19 at M S ep3 ⊢
    clear hC hd1 ha1 ne C1 d1
    refine ⟨_, rfl, _, rfl, fun C1 d1 a17 hC hd1 ha1 ne => ?_⟩
    have MS := M.put hl S hd1 ha1 ne (kf_17 T C1 hC) (show [(Str.ofString "part", v), (Str.ofString "number", u)] = fldsL u v 17 from rfl)
    replace M := MS.1
    replace S := MS.2.1
    replace hl := MS.2.2
    clear MS
    have kk : Same G19 (upd (upd G19 d1 (.xd [(Str.ofString "part", v), (Str.ofString "number", u)])) a17 (kept a17 (.ref C1) (some d1))) := (same_new hd1).trans (same_new (by rw [upd_ne ne]; exact ha1))
    replace ep3 := kk _ _ ep3
    clear kk
    generalize upd (upd G19 d1 _) a17 _ = G20 at M S ep3 ⊢
    clear hC hd1 ha1 ne C1 d1
    refine ⟨sz (by simp), fun p4 hp4 => ?_⟩
    have kk := same_new (H := G20) (o := .lst [V.ref a14, .ref a15, .ref a16, .ref a17]) hp4
    have ep4 : (upd G20 p4 (.lst [V.ref a14, .ref a15, .ref a16, .ref a17])) p4 = some (.lst [V.ref a14, .ref a15, .ref a16, .ref a17]) := upd_same
    replace M := M.same kk
    replace S := S.trans kk
    replace ep3 := kk _ _ ep3
    clear kk
    generalize upd G20 p4 _ = G21 at M S ep4 ep3 ⊢
    clear hp4
    refine ⟨p3, p4, _, _, rfl, rfl, ep3, ep4, sz (by simp), fun p5 hp5 => ?_⟩
    have kk := same_new (H := G21) (o := .lst (([V.ref a0, .ref a1, .ref a2, .ref a3, .ref a4, .ref a5, .ref a6] ++ [V.ref a7, .ref a8, .ref a9, .ref a10, .ref a11, .ref a12, .ref a13]) ++ [V.ref a14, .ref a15, .ref a16, .ref a17])) hp5
    have ep5 : (upd G21 p5 (.lst (([V.ref a0, .ref a1, .ref a2, .ref a3, .ref a4, .ref a5, .ref a6] ++ [V.ref a7, .ref a8, .ref a9, .ref a10, .ref a11, .ref a12, .ref a13]) ++ [V.ref a14, .ref a15, .ref a16, .ref a17]))) p5 = some (.lst (([V.ref a0, .ref a1, .ref a2, .ref a3, .ref a4, .ref a5, .ref a6] ++ [V.ref a7, .ref a8, .ref a9, .ref a10, .ref a11, .ref a12, .ref a13]) ++ [V.ref a14, .ref a15, .ref a16, .ref a17])) := upd_same
    replace M := M.same kk
    replace S := S.trans kk
    clear kk
    generalize upd G21 p5 _ = G22 at M S ep5 ⊢
    clear hp5
    have M : MadeAt K u v H G22 (([V.ref a0, .ref a1, .ref a2, .ref a3, .ref a4, .ref a5, .ref a6] ++ [V.ref a7, .ref a8, .ref a9, .ref a10, .ref a11, .ref a12, .ref a13]) ++ [V.ref a14, .ref a15, .ref a16, .ref a17]) := M
    obtain ⟨y, hy⟩ : ∃ y, (([V.ref a0, .ref a1, .ref a2, .ref a3, .ref a4, .ref a5, .ref a6] ++ [V.ref a7, .ref a8, .ref a9, .ref a10, .ref a11, .ref a12, .ref a13]) ++ [V.ref a14, .ref a15, .ref a16, .ref a17])[w0]? = some y := ⟨_, List.getElem?_eq_getElem hw⟩
    obtain ⟨b, rfl, nb, er⟩ := M w0 y hy
    exact ⟨_, rfl, p5, _, _, _, rfl, rfl, .of ep5, atI_nat hy, q b _ S nb er⟩
def sp__law_values (K : PySem.W.Frag) : Sp := fun vs H Q _ => ∃ (w : Nat) (a : Addr) (u v : V), vs = [.int (w : Int), .ref a] ∧ w < 18 ∧ ErAt K H a w u v ∧ ∀ p H', Same H H' → H p = none → H' p = some (.lst (valsL u v w)) → Q (.ref p) H'
theorem ok__law_values {f : Addr} {fd : FuncData} (F : Fun K "_law_values" "_law_values" s__law_values f fd) (T : Txt K w mg) : FnOk P w K mg base CX0 1 f fd ["_law_which", "_law_e"] (sp__law_values K) := by
  refine F.ok sc__law_values (fun vs H Q E h => ?_) (fun cdv A outer s H vs Q E hr h => ?_)
  · obtain ⟨w0, a, u, v, rfl, hw, er, q⟩ := h; rfl
  · obtain ⟨w0, a, u, v, rfl, hw, er, q⟩ := h
    refine ⟨_, (pss_cons (ps_if (pt_cmpR op_lt (pv 0) pe_int (nomark _)) (pss_one (ps_ret (pe_lst pa_nil))) pss_nil)
      (pss_cons (ps_if (pt_cmpR op_eq (pv 0) pe_int (nomark _)) (pss_one (ps_ret (pe_lst (pa_cons (pe_kf (pv 1)) pa_nil)))) pss_nil)
      (pss_cons (ps_if (pt_cmpR op_lt (pv 0) pe_int (nomark _)) (pss_one (ps_ret (pe_lst (pa_cons (pe_kf (pv 1)) pa_nil)))) pss_nil)
      (pss_cons (ps_if (pt_cmpR op_eq (pv 0) pe_int (nomark _)) (pss_one (ps_ret (pe_lst (pa_cons (pe_kf (pv 1)) pa_nil)))) pss_nil)
      (pss_one (ps_ret (pe_ifExp (pt_cmpR op_eq (pv 0) pe_int (nomark _)) (pe_lst (pa_cons (pe_kf (pv 1)) pa_nil)) (pe_lst (pa_cons (pe_kf (pv 1)) (pa_cons (pe_kf (pv 1)) pa_nil)))))))))), ?_⟩
    obtain ⟨C, d, ha, hd, kf⟩ := er
    refine ⟨_, rfl, _, _, rfl, rfl, _, rfl, ifd (fun c => ?_) (fun c0 => ?_)⟩
    · have c : w0 < 11 := by omega
      exact ⟨sz (by simp), fun L hL => q L _ (same_new hL) hL (by rw [upd_same]; unfold valsL; rw [if_pos c])⟩
    have c0 : ¬ w0 < 11 := by omega
    refine ⟨_, rfl, rfl, _, rfl, ifd (fun c => ?_) (fun c1 => ?_)⟩
    · have c : w0 = 11 := by have := V.int.inj c; omega
      subst c
      exact ⟨_, rfl, a, C, d, _, _, rfl, ha, hd, kf.ec, kf.fl _ List.mem_cons_self, rfl, sz (by simp), fun L hL => q L _ (same_new hL) hL (by rw [upd_same]; rfl)⟩
    replace c1 : w0 ≠ 11 := fun e => c1 (by rw [e]; rfl)
    refine ⟨_, rfl, _, _, rfl, rfl, _, rfl, ifd (fun c => ?_) (fun c2 => ?_)⟩
    · have c : w0 = 12 ∨ w0 = 13 ∨ w0 = 14 := by omega
      rcases c with c | c | c <;> subst c <;> exact ⟨_, rfl, a, C, d, _, _, rfl, ha, hd, kf.ec, kf.fl _ List.mem_cons_self, rfl, sz (by simp), fun L hL => q L _ (same_new hL) hL (by rw [upd_same]; rfl)⟩
    have c2 : ¬ w0 < 15 := by omega
    refine ⟨_, rfl, rfl, _, rfl, ifd (fun c => ?_) (fun c3 => ?_)⟩
    · have c : w0 = 15 := by have := V.int.inj c; omega
      subst c
      exact ⟨_, rfl, a, C, d, _, _, rfl, ha, hd, kf.ec, kf.fl _ List.mem_cons_self, rfl, sz (by simp), fun L hL => q L _ (same_new hL) hL (by rw [upd_same]; rfl)⟩
    replace c3 : w0 ≠ 15 := fun e => c3 (by rw [e]; rfl)
    refine ⟨_, rfl, rfl, _, rfl, ifd (fun c => ?_) (fun c4 => ?_)⟩
    · have c : w0 = 16 := by have := V.int.inj c; omega
      subst c
      exact ⟨_, rfl, a, C, d, _, _, rfl, ha, hd, kf.ec, kf.fl _ List.mem_cons_self, rfl, sz (by simp), fun L hL => q L _ (same_new hL) hL (by rw [upd_same]; rfl)⟩
    replace c4 : w0 ≠ 16 := fun e => c4 (by rw [e]; rfl)
    have c : w0 = 17 := by omega
    subst c
    exact ⟨_, rfl, a, C, d, _, _, rfl, ha, hd, kf.ec, kf.fl _ List.mem_cons_self, rfl, _, rfl, a, C, d, _, _, rfl, ha, hd, kf.ec, kf.fl _ (List.mem_cons_of_mem _ List.mem_cons_self), rfl, sz (by simp), fun L hL => q L _ (same_new hL) hL (by rw [upd_same]; rfl)⟩
def sp__law_due_bases (K : PySem.W.Frag) : Sp := fun vs H Q _ => ∃ (w : Nat), vs = [.int (w : Int)] ∧ w < 18 ∧ ∀ p H', Same H H' → H p = none → H' p = some (.lst ((List.range 7).map fun j => V.bl (dueB w j))) → Q (.ref p) H'
theorem ok__law_due_bases {f : Addr} {fd : FuncData} (F : Fun K "_law_due_bases" "_law_due_bases" s__law_due_bases f fd) (T : Txt K w mg) : FnOk P w K mg base CX0 1 f fd ["_law_which"] (sp__law_due_bases K) := by
  refine F.ok sc__law_due_bases (fun vs H Q E h => ?_) (fun cdv A outer s H vs Q E hr h => ?_)
  · obtain ⟨w0, rfl, hw, q⟩ := h; rfl
  · obtain ⟨w0, rfl, hw, q⟩ := h
    refine ⟨_, (pss_cons (ps_if (pt_cmpR op_eq (pv 0) pe_int (nomark _)) (pss_one (ps_ret (pe_lst (pa_cons pe_bl (pa_cons pe_bl (pa_cons pe_bl (pa_cons pe_bl (pa_cons pe_bl (pa_cons pe_bl (pa_cons pe_bl pa_nil)))))))))) pss_nil)
      (pss_cons (ps_if (pt_cmpR op_eq (pv 0) pe_int (nomark _)) (pss_one (ps_ret (pe_lst (pa_cons pe_bl (pa_cons pe_bl (pa_cons pe_bl (pa_cons pe_bl (pa_cons pe_bl (pa_cons pe_bl (pa_cons pe_bl pa_nil)))))))))) pss_nil)
      (pss_cons (ps_if (pt_cmpR op_eq (pv 0) pe_int (nomark _)) (pss_one (ps_ret (pe_lst (pa_cons pe_bl (pa_cons pe_bl (pa_cons pe_bl (pa_cons pe_bl (pa_cons pe_bl (pa_cons pe_bl (pa_cons pe_bl pa_nil)))))))))) pss_nil)
      (pss_cons (ps_if (pt_cmpR op_eq (pv 0) pe_int (nomark _)) (pss_one (ps_ret (pe_lst (pa_cons pe_bl (pa_cons pe_bl (pa_cons pe_bl (pa_cons pe_bl (pa_cons pe_bl (pa_cons pe_bl (pa_cons pe_bl pa_nil)))))))))) pss_nil)
      (pss_one (ps_ret (pe_lst (pa_cons pe_bl (pa_cons pe_bl (pa_cons pe_bl (pa_cons pe_bl (pa_cons pe_bl (pa_cons pe_bl (pa_cons pe_bl pa_nil)))))))))))))), ?_⟩
    refine ⟨_, rfl, rfl, _, rfl, ifd (fun c => ?_) (fun c9 => ?_)⟩
    · have c : w0 = 9 := by have := V.int.inj c; omega
      subst c
      exact ⟨sz (by simp), fun L hL => q L _ (same_new hL) hL (by rw [upd_same]; rfl)⟩
    replace c9 : w0 ≠ 9 := fun e => c9 (by rw [e]; rfl)
    refine ⟨_, rfl, rfl, _, rfl, ifd (fun c => ?_) (fun c10 => ?_)⟩
    · have c : w0 = 10 := by have := V.int.inj c; omega
      subst c
      exact ⟨sz (by simp), fun L hL => q L _ (same_new hL) hL (by rw [upd_same]; rfl)⟩
    replace c10 : w0 ≠ 10 := fun e => c10 (by rw [e]; rfl)
    refine ⟨_, rfl, rfl, _, rfl, ifd (fun c => ?_) (fun c15 => ?_)⟩
    · have c : w0 = 15 := by have := V.int.inj c; omega
      subst c
      exact ⟨sz (by simp), fun L hL => q L _ (same_new hL) hL (by rw [upd_same]; rfl)⟩
    replace c15 : w0 ≠ 15 := fun e => c15 (by rw [e]; rfl)
    refine ⟨_, rfl, rfl, _, rfl, ifd (fun c => ?_) (fun c16 => ?_)⟩
    · have c : w0 = 16 := by have := V.int.inj c; omega
      subst c
      exact ⟨sz (by simp), fun L hL => q L _ (same_new hL) hL (by rw [upd_same]; rfl)⟩
    replace c16 : w0 ≠ 16 := fun e => c16 (by rw [e]; rfl)
    refine ⟨sz (by simp), fun L hL => q L _ (same_new hL) hL ?_⟩
    have e : ∀ j, dueB w0 j = decide (j < 2) := fun j => by unfold dueB; rw [if_neg c9, if_neg c10, if_neg c15, if_neg c16]
    rw [upd_same]
    simp only [e]
    rfl
theorem ok_law {f : Addr} {oc kV dc pm cdv ct : Value} {od an : Option Addr} {osl : Array (Option Value)} (lk : K.lookup f = some ⟨oc, od, .func (PySem.W.fnOf "law" "law" (defArgs s_law) (defBody s_law) (defScope s_law) .none kV dc pm an cdv ct), osl⟩) (hcd : PySem.W.codeIn K cdv "law" = true) (T : Txt K w mg) (C__law_take : Cal P w K mg base "_law_take" 1 ["_law_pool_here", "_law_many"] (sp__law_take K)) (C__law_pool : Cal P w K mg base "_law_pool" 1 ["_law_script", "_law_k"] (sp__law_pool K)) (C__law_kinds : Cal P w K mg base "_law_kinds" 1 ["_law_e"] (sp__law_kinds K)) (C__law_bases : Cal P w K mg base "_law_bases" 1 ["_law_e"] (sp__law_bases K)) (C__law_made : Cal P w K mg base "_law_made" 3 ["_law_which", "_law_one", "_law_other"] (sp__law_made K)) (C__law_values : Cal P w K mg base "_law_values" 1 ["_law_which", "_law_e"] (sp__law_values K)) (C__law_due_bases : Cal P w K mg base "_law_due_bases" 1 ["_law_which"] (sp__law_due_bases K)) {s : Shared} {H : Hp} {a : Addr} {ns : List Int} (e0 : Env0 P w K mg base callerA [] s H) (hS : SqL K H a (ns.map V.int)) (hlen : ns.length ≤ 63) (sy : SysAt K H) :
    codeAny (model P w) callerA (.call (.ref f) ⟨[.ref a], []⟩) (CR CX0 [] P w H s (fun v _ => v = .bl true) fun _ _ _ => False) s := by
  have hr : Room 3 (callerA.deeper (envOfC "law" (defScope s_law) s.heap.objs.size f cdv)) := Room.deeper (k := 3) ⟨rfl, by decide, by decide⟩ _
  have gd : (callerA.deeper (envOfC "law" (defScope s_law) s.heap.objs.size f cdv)).guards = some [] := caller_guards
  generalize hQ : (fun (v : V) (_ : Hp) => v = V.bl true) = Q
  have q : ∀ H', Q (.bl true) H' := fun _ => by rw [← hQ]
  refine body_at (N := ["_law_script", "_law_k", "_law_pool_here", "_law_some", "_law_one", "_law_other", "_law_which", "_law_made_here", "_law_second", "_law_at", "_law_own", "_law_kinds_here", "_law_found"]) (ps := ["_law_script"]) (vs := [.ref a]) (us := [.ref a]) lk hcd sc_law rfl (k := 3) ⟨rfl, by decide, by decide⟩ e0 (.of_eq rfl) (.cons rfl .nil) ?_
  refine ⟨_, PSs.nox (pss_cons (ps_for PassesOwn.never rfl (pi_range1 (by rfl) T.z_range (pa_cons (pe_callB (call_max2 rfl) (by rfl) T.z_max (by decide +kernel) (pa_cons pe_int (pa_cons (pe_callB (call_min2 rfl) (by rfl) T.z_min (by decide +kernel) (pa_cons (pe_callB call_len_seq (by rfl) T.z_len (by decide +kernel) (pa_cons (pv 0) pa_nil)) (pa_cons pe_int pa_nil))) pa_nil))) pa_nil)) (pg_name (i := 1) sc_law.nd rfl (.inl rfl)) (pss_cons (ps_set (i := 2) sc_law.nd rfl (.inl rfl) (pe_cal C__law_pool (hr.mono (by decide)) (pa_cons (pv 0) (pa_cons (pv 1) pa_nil))))
      (pss_cons (ps_set (i := 3) sc_law.nd rfl (.inl rfl) (pe_lst (pa_cons pe_non (pa_cons pe_int (pa_cons pe_str (pa_cons pe_bl (pa_cons (pe_lst (pa_cons pe_int pa_nil)) (pa_cons (pe_tup (pa_cons pe_int (pa_cons pe_str pa_nil))) (pa_cons pe_dnewK (pa_cons pe_int (pa_cons (pe_un un_neg pe_int) (pa_cons pe_str (pa_cons (pe_op op_pow pe_int pe_int) pa_nil)))))))))))))
      (pss_cons (ps_par (i := 4) (j := 5) rfl sc_law.nd rfl rfl (by decide) rfl rfl (pa_cons (pe_ix (r := rIxL K) ix_list (pv 3) (pe_cal C__law_take (hr.mono (by decide)) (pa_cons (pv 2) (pa_cons pe_int pa_nil))) (fun _ _ => rfl)) (pa_cons (pe_ix (r := rIxL K) ix_list (pv 3) (pe_cal C__law_take (hr.mono (by decide)) (pa_cons (pv 2) (pa_cons pe_int pa_nil))) (fun _ _ => rfl)) pa_nil)) (by rfl))
      (pss_one (ps_for PassesOwn.never rfl (pi_range1 (by rfl) T.z_range (pa_cons pe_int pa_nil)) (pg_name (i := 6) sc_law.nd rfl (.inl rfl)) (pss_cons (ps_par (i := 7) (j := 8) rfl sc_law.nd rfl rfl (by decide) rfl rfl (pa_cons (pe_cal C__law_made (hr.mono (by decide)) (pa_cons (pv 6) (pa_cons (pv 4) (pa_cons (pv 5) pa_nil)))) (pa_cons (pe_cal C__law_made (hr.mono (by decide)) (pa_cons (pv 6) (pa_cons (pv 5) (pa_cons (pv 4) pa_nil)))) pa_nil)) (by rfl))
      (pss_cons (ps_setLc (i := 11) (own := [("_law_at", 9), ("_law_own", 10)]) (g := gTup K 2 (gCons (gName 9) (gCons (gName 10) gNil))) rfl sc_law.nd rfl rfl (sw_true rfl rfl rfl (by decide +kernel)) (pi_enum (by rfl) T.z_enumerate (pa_cons (pe_cal C__law_kinds (hr.mono (by decide)) (pa_cons (pv 7) pa_nil)) pa_nil)) (blkOk_by (own := [("_law_at", 9), ("_law_own", 10)]) (N := ["_law_script", "_law_k", "_law_pool_here", "_law_some", "_law_one", "_law_other", "_law_which", "_law_made_here", "_law_second", "_law_at", "_law_own", "_law_kinds_here", "_law_found"]) (sc := defScope s_law) (by decide +kernel)) (fun _ _ _ _ _ => by exact (pg_tup rfl (pgs_cons (pg_name (i := 9) sc_law.nd rfl (.inl rfl)) (pgs_cons (pg_name (i := 10) sc_law.nd rfl (.inl rfl)) pgs_nil)))) (fun _ _ _ _ _ => (pts_one (pt_val (pv 10)))) (fun _ _ _ _ _ => (pv 9)))
      (pss_cons (ps_if (PW.pt (pw_or (pt_cmpR (r := rNeD K) (op_neD hr.units) (pv 11) (pe_lst (pa_cons (pv 6) pa_nil)) (nomark _)) (pw_or (pt_cmpR (r := rNeD K) (op_neD hr.units) (pe_cal C__law_kinds (hr.mono (by decide)) (pa_cons (pv 8) pa_nil)) (pe_cal C__law_kinds (hr.mono (by decide)) (pa_cons (pv 7) pa_nil)) (nomark _)) (pw_or1 (pt_cmpR (r := rNeD K) (op_neD hr.units) (pe_cal C__law_bases (hr.mono (by decide)) (pa_cons (pv 7) pa_nil)) (pe_cal C__law_due_bases (hr.mono (by decide)) (pa_cons (pv 6) pa_nil)) (nomark _)))))) (pss_one (ps_ret pe_bl)) pss_nil)
      (pss_cons (ps_set (i := 12) sc_law.nd rfl (.inl rfl) (pe_cal C__law_values (hr.mono (by decide)) (pa_cons (pv 6) (pa_cons (pv 7) pa_nil))))
      (pss_cons (ps_if (pt_cmpR op_ne (pe_callB (call_reprX gd hr.units) (by rfl) T.z_repr (by decide +kernel) (pa_cons (pv 12) pa_nil)) (pe_callB (call_reprX gd hr.units) (by rfl) T.z_repr (by decide +kernel) (pa_cons (pe_slice sl_list (pe_lst (pa_cons (pv 4) (pa_cons (pv 5) pa_nil))) po_none (po_some (pe_callB call_len_seq (by rfl) T.z_len (by decide +kernel) (pa_cons (pv 12) pa_nil)))) pa_nil)) (nomark _)) (pss_one (ps_ret pe_bl)) pss_nil)
      (pss_one (ps_if (pt_cmpR op_ne (pe_callB (call_reprX gd hr.units) (by rfl) T.z_repr (by decide +kernel) (pa_cons (pe_cal C__law_values (hr.mono (by decide)) (pa_cons (pv 6) (pa_cons (pv 8) pa_nil))) pa_nil)) (pe_callB (call_reprX gd hr.units) (by rfl) T.z_repr (by decide +kernel) (pa_cons (pe_slice sl_list (pe_lst (pa_cons (pv 5) (pa_cons (pv 4) pa_nil))) po_none (po_some (pe_callB call_len_seq (by rfl) T.z_len (by decide +kernel) (pa_cons (pv 12) pa_nil)))) pa_nil)) (nomark _)) (pss_one (ps_ret pe_bl)) pss_nil)))))))))))))
      (pss_one (ps_ret pe_bl))), ?_⟩
  refine ⟨_, rfl, a, _, rfl, .inl hS, _, _, rfl, _, _, rfl, _, rfl, rep_lo (c := 10) (by decide) (by decide), rep_hi (c := 10) (by decide) (by decide), for_range (fun i σ H' => ∃ v1 v2 v3 v4 v5 v6 v7 v8 v9 v10 v11 v12, σ = [some (.ref a), v1, v2, v3, v4, v5, v6, v7, v8, v9, v10, v11, v12] ∧ Same H H') ⟨_, _, _, _, _, _, _, _, _, _, _, _, rfl, Same.refl _⟩ ?_ ?_⟩
  case refine_2 =>
    rintro σ G ⟨v1, v2, v3, v4, v5, v6, v7, v8, v9, v10, v11, v12, rfl, sG⟩
    exact q _
  rintro i σ H3 hi ⟨v1, v2, v3, v4, v5, v6, v7, v8, v9, v10, v11, v12, rfl, s3⟩
  have hi63 := rep_i (c := 10) (by decide) (by decide) hi
  rw [i0]
  refine ⟨_, rfl, _, rfl, a, ns, i, rfl, s3.seq hS, hlen, hi63, fun x y p H4 sm4 hp0 P => ?_⟩
  have SG := s3.trans sm4
  have hp1 : H p = none := free0 s3 hp0
  clear sm4 hp0 s3 H3
  have pn : ∀ {G : Hp} {b : Addr}, Same H4 G → G b = none → b ≠ p := fun s n e => by rw [e, s _ _ P.1] at n; cases n
  refine ⟨sz (by simp), fun l1 hl1 => ?_⟩
  have s1 := same_new (o := .lst [.int 1]) hl1
  have f1 : (upd H4 l1 (.lst [.int 1])) l1 = some (.lst [.int 1]) := upd_same
  have n1 := pn (Same.refl _) hl1
  generalize upd H4 l1 _ = G1 at s1 f1 ⊢
  refine ⟨sz (by simp), fun t1 ht1 => ?_⟩
  have s2 := same_new (o := .tup [.int 2, .str (Str.ofString "x")]) ht1
  have f2 : (upd G1 t1 (.tup [.int 2, .str (Str.ofString "x")])) t1 = some (.tup [.int 2, .str (Str.ofString "x")]) := upd_same
  have n2 := pn s1 ht1
  generalize upd G1 t1 _ = G2 at s2 f2 ⊢
  refine fun d1 hd1 => ?_
  have s3 := same_new (o := .dK []) hd1
  have f3 : (upd G2 d1 (.dK [])) d1 = some (.dK []) := upd_same
  have n3 := pn (s1.trans s2) hd1
  generalize upd G2 d1 _ = G3 at s3 f3 ⊢
  refine ⟨_, rfl, _, _, rfl, rfl, ⟨by decide, by decide, by decide⟩, ?_⟩
  refine ⟨sz (by simp), fun L hL => ?_⟩
  generalize hxs : [V.non, V.int 7, V.str (Str.ofString "calls"), V.bl true, V.ref l1, V.ref t1, V.ref d1, V.int 0, V.int (-1), V.str (Str.ofString ""), V.int (10 ^ (29 : Int).toNat)] = XS
  have lx : XS.length = 11 := by rw [← hxs]; rfl
  have s4 := same_new (o := .lst XS) hL
  have f4 : (upd G3 L (.lst XS)) L = some (.lst XS) := upd_same
  have n4 := pn ((s1.trans s2).trans s3) hL
  have S4 := ((s1.trans s2).trans s3).trans s4
  have g1 := s4 _ _ (s3 _ _ (s2 _ _ f1))
  have g2 := s4 _ _ (s3 _ _ f2)
  have g3 := s4 _ _ f3
  generalize upd G3 L _ = G at s4 f4 S4 g1 g2 g3 ⊢
  have PG : Pool G p x y := P.same S4
  have SH : Same H G := SG.trans S4
  clear s1 s2 s3 s4 f1 f2 f3 hl1 ht1 hd1 hL S4 SG P pn
  obtain ⟨B, hB⟩ : ∃ B : Hp, B = fun b => if b = p then none else G b := ⟨_, rfl⟩
  have bG : ∀ {b : Addr} {o : HO}, b ≠ p → G b = some o → B b = some o := fun {b o} n h => by
    rw [hB]
    show (if b = p then none else G b) = some o
    rw [if_neg n]; exact h
  have sB : ∀ o, Same B (upd G p o) := fun o b z e => by
    rw [hB] at e
    have e : (if b = p then none else G b) = some z := e
    by_cases nb : b = p
    · rw [if_pos nb] at e; cases e
    · rw [if_neg nb] at e; rw [upd_ne nb]; exact e
  have all : ∀ v ∈ XS, ∃ d, Dx B v d ∧ Fit 200 2 d := by
    rw [← hxs]
    refine lcons ⟨_, .non, nice_none.ft⟩ (lcons ⟨_, .int 7, (nice_int (m := 160) (by decide) (by decide)).ft.mono (by decide) (Nat.zero_le _)⟩ (lcons ⟨_, .str _, (nice_lit (n := 10) (k := 0) (by decide +kernel)).ft.mono (by decide) (by decide)⟩ (lcons ⟨_, .bl true, ?_⟩ (lcons ⟨_, .lst (bG n1 g1) (.cons (.int 1) .nil), ?_⟩ (lcons ⟨_, .tup (bG n2 g2) (.cons (.int 2) (.cons (.str _) .nil)), ?_⟩ (lcons ⟨_, .dk (bG n3 g3), ?_⟩ (lcons ⟨_, .int 0, (nice_int (m := 160) (by decide) (by decide)).ft.mono (by decide) (Nat.zero_le _)⟩ (lcons ⟨_, .int (-1), (nice_int (m := 160) (by decide) (by decide)).ft.mono (by decide) (Nat.zero_le _)⟩ (lcons ⟨_, .str _, (nice_lit (n := 10) (k := 0) (by decide +kernel)).ft.mono (by decide) (by decide)⟩ (lcons ⟨_, .int _, (nice_int (m := 160) (by decide +kernel) (by decide)).ft.mono (by decide) (Nat.zero_le _)⟩ lnil))))))))))
    all_goals exact ⟨by decide +kernel, by decide +kernel, by decide +kernel, by decide +kernel⟩
  refine ⟨_, rfl, _, rfl, p, x, y, _, rfl, PG, by decide, by decide, fun r1 x1 y1 r10 r11 P1 => ?_⟩
  obtain ⟨uu, hu, du, xu, fu⟩ := pick (fun v => ∃ d, Dx B v d ∧ Fit 200 2 d) r10 (by rw [lx]; exact r11) all
  refine ⟨L, _, _, uu, rfl, rfl, .of (by rw [upd_ne n4]; exact f4), hu, ?_⟩
  refine ⟨_, rfl, _, rfl, p, x1, y1, _, rfl, P1, by decide, by decide, fun r2 x2 y2 r20 r21 P2 => ?_⟩
  obtain ⟨ww, hv, dv, xv, fv⟩ := pick (fun v => ∃ d, Dx B v d ∧ Fit 200 2 d) r20 (by rw [lx]; exact r21) all
  refine ⟨L, _, _, ww, rfl, rfl, .of (by rw [upd_ne n4, upd_ne n4]; exact f4), hv, ?_⟩
  refine ⟨_, _, rfl, ?_⟩
  have SF : Same H (upd (upd G p (.lst [.int x1, .int y1])) p (.lst [.int x2, .int y2])) := sameU (sameU SH hp1) hp1
  have sBF : Same B (upd (upd G p (.lst [.int x1, .int y1])) p (.lst [.int x2, .int y2])) := fun b z e => by
    have q := sB (.lst [.int x1, .int y1]) b z e
    by_cases nb : b = p
    · subst nb
      rw [hB] at e
      have e : (if b = b then none else G b) = some z := e
      rw [if_pos rfl] at e; cases e
    · rw [upd_ne nb]; exact q
  clear P1 P2 PG all hu hv g1 g2 g3 n1 n2 n3
  generalize upd (upd G p _) p _ = F0 at SF sBF ⊢
  have xu : Dx F0 uu du := xu.same sBF
  have xv : Dx F0 ww dv := xv.same sBF
  clear sBF sB bG hB SH f4
  refine ⟨18, rfl, by decide, by decide, for_range (fun j σ F => ∃ v6 v7 v8 v9 v10 v11 v12, σ = [some (.ref a), some (.int (i : Int)), some (.ref p), some (.ref L), some uu, some ww, v6, v7, v8, v9, v10, v11, v12] ∧ Same F0 F) ⟨_, _, _, _, _, _, _, rfl, Same.refl _⟩ ?_ ?_⟩
  case refine_2 =>
    rintro σ F ⟨v6, v7, v8, v9, v10, v11, v12, rfl, sF⟩
    exact ⟨_, _, _, _, _, _, _, _, _, _, _, _, rfl, SF.trans sF⟩
  rintro j σ F hj ⟨v6, v7, v8, v9, v10, v11, v12, rfl, sF⟩
  rw [i0]
  have hj : j < 18 := by omega
  refine ⟨_, rfl, _, rfl, _, rfl, j, uu, ww, rfl, hj, fun a1 F1 k1 m1 er1 => ?_⟩
  refine ⟨_, rfl, _, rfl, _, rfl, j, ww, uu, rfl, hj, fun a2 F2 k2 m2 er2 => ?_⟩
  refine ⟨_, _, rfl, ?_⟩
  replace er1 := er1.same k2
  have S2 := (sF.trans k1).trans k2
  clear k1 k2 m1 m2 sF F
  refine ⟨_, rfl, a1, j, uu, ww, rfl, er1, fun q1 F3 k3 m3 e3 => ?_⟩
  replace er1 := er1.same k3
  replace er2 := er2.same k3
  replace S2 := S2.trans k3
  clear k3 m3
  refine ⟨q1, _, rfl, .of e3, fun D hD => lc_gen (walk_enum (K := K) (a := q1) (xs := (List.range 18).map fun t => V.bl (decide (j = t)))) (fun t => decide (j = t)) (fun t => V.int (t : Int)) hD (by rw [List.length_map, List.length_range, sizeLine_eq]; decide) (fun G s => .of (s _ _ e3)) ?_ ?_⟩
  · rintro t x' H4 H5 ht s4 ⟨Tp, y1, y2, rfl, hn, rfl, hy1, hy2⟩ kk mm hk hm
    cases hy1
    have hy2 : ((List.range 18).map fun t => V.bl (decide (j = t)))[t]? = some y2 := hy2
    rw [List.length_map, List.length_range] at ht
    rw [List.getElem?_map, List.getElem?_range ht] at hy2
    cases hy2
    refine ⟨Tp, _, rfl, .of upd_same, rfl, _, _, rfl, _, _, rfl, rfl, ?_⟩
    refine ⟨rfl, ?_⟩
    refine ⟨_, rfl, _, rfl, ?_⟩
    cases h : decide (j = t) with
    | true => exact ifbT rfl ⟨_, rfl, hk h _ (same_new hn)⟩
    | false => exact ifbF rfl (hm h _ (same_new hn))
  rintro H4 s4 hl
  rw [List.length_map, List.length_range, only_one j hj] at hl
  have hl : H4 D = some (.lst [V.int (j : Int)]) := hl
  replace er1 := er1.same s4
  replace er2 := er2.same s4
  replace S2 := S2.trans s4
  clear s4 e3
  have nj : SeqAt.shaped (.list [.int (j : Int)]) = true := ((NiceAll.cons (nice_int (m := 20) (k := 0) (by omega) (by decide)) (NiceAll.nil (n := 0) (k := 0))).list).shaped (by decide)
  refine ⟨_, rfl, _, rfl, sz (by simp), fun Z hZ => ?_⟩
  have k5 := same_new (o := .lst [V.int (j : Int)]) hZ
  have eZ : (upd H4 Z (.lst [V.int (j : Int)])) Z = some (.lst [V.int (j : Int)]) := upd_same
  replace hl := k5 _ _ hl
  replace er1 := er1.same k5
  replace er2 := er2.same k5
  replace S2 := S2.trans k5
  clear k5 hZ
  generalize upd H4 Z _ = F5 at hl eZ er1 er2 S2 ⊢
  refine ⟨.list [.int (j : Int)], .list [.int (j : Int)], (Dx.lst hl (.cons (.int _) .nil)).dp (by rfl), (Dx.lst eZ (.cons (.int _) .nil)).dp (by rfl), nj, nj, _, rfl, ?_⟩
  rw [PySem.SeqAt.eqv_refl _ (PySem.SeqAt.canLay_of_shaped nj)]
  refine ifbF rfl ?_
  clear hl eZ nj
  refine ⟨_, rfl, a2, j, ww, uu, rfl, er2, fun q2 F6 k6 m6 e6 => ?_⟩
  replace er1 := er1.same k6
  replace er2 := er2.same k6
  replace S2 := S2.trans k6
  clear k6 m6 F5
  refine ⟨_, rfl, a1, j, uu, ww, rfl, er1, fun q3 F7 k7 m7 e7 => ?_⟩
  replace er1 := er1.same k7
  replace er2 := er2.same k7
  replace S2 := S2.trans k7
  replace e6 := k7 _ _ e6
  clear k7 m7 F6
  have sb := shp_bools (f := fun t => decide (j = t)) (List.range 18)
  refine ⟨_, _, (Dx.lst e6 (dx_bools _)).dp (lay_nodict (nice_bools _).ly), (Dx.lst e7 (dx_bools _)).dp (lay_nodict (nice_bools _).ly), sb, sb, _, rfl, ?_⟩
  rw [PySem.SeqAt.eqv_refl _ (PySem.SeqAt.canLay_of_shaped sb)]
  refine ifbF rfl ?_
  clear e6 e7 sb
  refine ⟨_, rfl, a1, j, uu, ww, rfl, er1, fun q4 F8 k8 m8 e8 => ?_⟩
  replace er1 := er1.same k8
  replace er2 := er2.same k8
  replace S2 := S2.trans k8
  clear k8 m8 F7
  refine ⟨_, rfl, j, rfl, hj, fun q5 F9 k9 m9 e9 => ?_⟩
  replace er1 := er1.same k9
  replace er2 := er2.same k9
  replace S2 := S2.trans k9
  replace e8 := k9 _ _ e8
  clear k9 m9 F8
  have sb := shp_bools (f := dueB j) (List.range 7)
  refine ⟨_, _, (Dx.lst e8 (dx_bools _)).dp (lay_nodict (nice_bools _).ly), (Dx.lst e9 (dx_bools _)).dp (lay_nodict (nice_bools _).ly), sb, sb, _, rfl, ?_⟩
  rw [PySem.SeqAt.eqv_refl _ (PySem.SeqAt.canLay_of_shaped sb)]
  refine ifbF rfl ?_
  clear e8 e9 sb
  refine ⟨_, rfl, _, rfl, j, a1, uu, ww, rfl, hj, er1, fun q6 G1 g1 o1 e6 => ?_⟩
  replace er2 := er2.same g1
  replace S2 := S2.trans g1
  clear g1 o1 er1 F9
  have ft := (fit_vals (w := j) fu fv).mono (Nat.le_refl _) (show 5 ≤ 50 by decide)
  have ft2 := (fit_vals (w := j) fv fu).mono (Nat.le_refl _) (show 5 ≤ 50 by decide)
  refine ⟨_, rfl, .ref q6, _, 1000, rfl, ⟨_, Same.refl _, .lst e6 (dx_vals (xu.same S2) (xv.same S2))⟩, sy.same (SF.trans S2), ft, by decide, ?_⟩
  refine ⟨_, rfl, _, rfl, sz (by simp), fun Z hZ => ?_⟩
  have k1 := same_new (o := .lst [uu, ww]) hZ
  have eZ : (upd G1 Z (.lst [uu, ww])) Z = some (.lst [uu, ww]) := upd_same
  replace er2 := er2.same k1
  replace S2 := S2.trans k1
  replace e6 := k1 _ _ e6
  clear k1 hZ
  generalize upd G1 Z _ = G2 at er2 S2 e6 eZ ⊢
  refine ⟨_, rfl, q6, _, rfl, .inl (.of e6), _, rfl, Z, _, rfl, .of eZ, fun s1 hs1 => ?_⟩
  rw [cut_tok, vals_take]
  have k1 := same_new (o := .lst (valsL uu ww j)) hs1
  have es : (upd G2 s1 (.lst (valsL uu ww j))) s1 = some (.lst (valsL uu ww j)) := upd_same
  replace er2 := er2.same k1
  replace S2 := S2.trans k1
  replace e6 := k1 _ _ e6
  clear k1 hs1 eZ
  generalize upd G2 s1 _ = G3 at er2 S2 e6 es ⊢
  refine ⟨.ref s1, _, 1000, rfl, ⟨_, Same.refl _, .lst es (dx_vals (xu.same S2) (xv.same S2))⟩, sy.same (SF.trans S2), ft, by decide, ?_⟩
  refine ⟨rfl, _, rfl, ifnd (fun c => absurd rfl c) (fun _ => ?_)⟩
  clear es
  refine ⟨_, rfl, _, rfl, j, a2, ww, uu, rfl, hj, er2, fun q7 G4 g4 o4 e7 => ?_⟩
  replace S2 := S2.trans g4
  replace e6 := g4 _ _ e6
  clear g4 o4 er2 G3
  refine ⟨.ref q7, _, 1000, rfl, ⟨_, Same.refl _, .lst e7 (dx_vals (xv.same S2) (xu.same S2))⟩, sy.same (SF.trans S2), ft2, by decide, ?_⟩
  refine ⟨_, rfl, _, rfl, sz (by simp), fun Z hZ => ?_⟩
  have k1 := same_new (o := .lst [ww, uu]) hZ
  have eZ : (upd G4 Z (.lst [ww, uu])) Z = some (.lst [ww, uu]) := upd_same
  replace S2 := S2.trans k1
  replace e6 := k1 _ _ e6
  clear k1 hZ
  generalize upd G4 Z _ = G5 at S2 e6 eZ ⊢
  refine ⟨_, rfl, q6, _, rfl, .inl (.of e6), _, rfl, Z, _, rfl, .of eZ, fun s1 hs1 => ?_⟩
  rw [cut_tok, vals_take]
  have k1 := same_new (o := .lst (valsL ww uu j)) hs1
  have es : (upd G5 s1 (.lst (valsL ww uu j))) s1 = some (.lst (valsL ww uu j)) := upd_same
  replace S2 := S2.trans k1
  clear k1 hs1 eZ
  generalize upd G5 s1 _ = G6 at S2 es ⊢
  refine ⟨.ref s1, _, 1000, rfl, ⟨_, Same.refl _, .lst es (dx_vals (xv.same S2) (xu.same S2))⟩, sy.same (SF.trans S2), ft2, by decide, ?_⟩
  refine ⟨rfl, _, rfl, ifnd (fun c => absurd rfl c) (fun _ => ?_)⟩
  exact ⟨_, _, _, _, _, _, _, rfl, S2⟩
end
theorem all_mk {l : PySem.W.OpenLaw} {w : World} {K : PySem.W.Frag} {h : Heap} {mg : Str → Option Value} {fa f0 f1 f2 f3 f4 f5 f6 f7 : Addr} (X : K.In h) (G : h.Ns mainGlobals mg) (hfa : mg "law" = some (.ref fa))
    {od0 an0 od1 an1 od2 an2 od3 an3 od4 an4 od5 an5 od6 an6 od7 an7 : Option Addr} {sl0 sl1 sl2 sl3 sl4 sl5 sl6 sl7 : Array (Option Value)} {oc0 kV0 dc0 pm0 cd0 ct0 oc1 kV1 dc1 pm1 cd1 ct1 oc2 kV2 dc2 pm2 cd2 ct2 oc3 kV3 dc3 pm3 cd3 ct3 oc4 kV4 dc4 pm4 cd4 ct4 oc5 kV5 dc5 pm5 cd5 ct5 oc6 kV6 dc6 pm6 cd6 ct6 oc7 kV7 dc7 pm7 cd7 ct7 : Value}
    (a0 : PySem.W.nsIn K mainGlobals "_law_take" = some (some (.ref f0))) (l0 : K.lookup f0 = some ⟨oc0, od0, .func (PySem.W.fnOf "_law_take" "_law_take" (defArgs s__law_take) (defBody s__law_take) (defScope s__law_take) .none kV0 dc0 pm0 an0 cd0 ct0), sl0⟩) (c0 : PySem.W.codeIn K cd0 "_law_take" = true) (k0 : PySem.W.keepIn K (.ref f0) = true)
    (a1 : PySem.W.nsIn K mainGlobals "_law_pool" = some (some (.ref f1))) (l1 : K.lookup f1 = some ⟨oc1, od1, .func (PySem.W.fnOf "_law_pool" "_law_pool" (defArgs s__law_pool) (defBody s__law_pool) (defScope s__law_pool) .none kV1 dc1 pm1 an1 cd1 ct1), sl1⟩) (c1 : PySem.W.codeIn K cd1 "_law_pool" = true) (k1 : PySem.W.keepIn K (.ref f1) = true)
    (a2 : PySem.W.nsIn K mainGlobals "_law_kinds" = some (some (.ref f2))) (l2 : K.lookup f2 = some ⟨oc2, od2, .func (PySem.W.fnOf "_law_kinds" "_law_kinds" (defArgs s__law_kinds) (defBody s__law_kinds) (defScope s__law_kinds) .none kV2 dc2 pm2 an2 cd2 ct2), sl2⟩) (c2 : PySem.W.codeIn K cd2 "_law_kinds" = true) (k2 : PySem.W.keepIn K (.ref f2) = true)
    (a3 : PySem.W.nsIn K mainGlobals "_law_bases" = some (some (.ref f3))) (l3 : K.lookup f3 = some ⟨oc3, od3, .func (PySem.W.fnOf "_law_bases" "_law_bases" (defArgs s__law_bases) (defBody s__law_bases) (defScope s__law_bases) .none kV3 dc3 pm3 an3 cd3 ct3), sl3⟩) (c3 : PySem.W.codeIn K cd3 "_law_bases" = true) (k3 : PySem.W.keepIn K (.ref f3) = true)
    (a4 : PySem.W.nsIn K mainGlobals "_law_made" = some (some (.ref f4))) (l4 : K.lookup f4 = some ⟨oc4, od4, .func (PySem.W.fnOf "_law_made" "_law_made" (defArgs s__law_made) (defBody s__law_made) (defScope s__law_made) .none kV4 dc4 pm4 an4 cd4 ct4), sl4⟩) (c4 : PySem.W.codeIn K cd4 "_law_made" = true) (k4 : PySem.W.keepIn K (.ref f4) = true)
    (a5 : PySem.W.nsIn K mainGlobals "_law_values" = some (some (.ref f5))) (l5 : K.lookup f5 = some ⟨oc5, od5, .func (PySem.W.fnOf "_law_values" "_law_values" (defArgs s__law_values) (defBody s__law_values) (defScope s__law_values) .none kV5 dc5 pm5 an5 cd5 ct5), sl5⟩) (c5 : PySem.W.codeIn K cd5 "_law_values" = true) (k5 : PySem.W.keepIn K (.ref f5) = true)
    (a6 : PySem.W.nsIn K mainGlobals "_law_due_bases" = some (some (.ref f6))) (l6 : K.lookup f6 = some ⟨oc6, od6, .func (PySem.W.fnOf "_law_due_bases" "_law_due_bases" (defArgs s__law_due_bases) (defBody s__law_due_bases) (defScope s__law_due_bases) .none kV6 dc6 pm6 an6 cd6 ct6), sl6⟩) (c6 : PySem.W.codeIn K cd6 "_law_due_bases" = true) (k6 : PySem.W.keepIn K (.ref f6) = true)
    (a7 : PySem.W.nsIn K mainGlobals "law" = some (some (.ref f7))) (l7 : K.lookup f7 = some ⟨oc7, od7, .func (PySem.W.fnOf "law" "law" (defArgs s_law) (defBody s_law) (defScope s_law) .none kV7 dc7 pm7 an7 cd7 ct7), sl7⟩) (c7 : PySem.W.codeIn K cd7 "law" = true) (k7 : PySem.W.keepIn K (.ref f7) = true)
    (z_IndexError : PySem.W.nsIn K mainGlobals "IndexError" = some none)
    (z_KeyError : PySem.W.nsIn K mainGlobals "KeyError" = some none)
    (z_LookupError : PySem.W.nsIn K mainGlobals "LookupError" = some none)
    (z_OverflowError : PySem.W.nsIn K mainGlobals "OverflowError" = some none)
    (z_RuntimeError : PySem.W.nsIn K mainGlobals "RuntimeError" = some none)
    (z_ValueError : PySem.W.nsIn K mainGlobals "ValueError" = some none)
    (z_abs : PySem.W.nsIn K mainGlobals "abs" = some none)
    (z_enumerate : PySem.W.nsIn K mainGlobals "enumerate" = some none)
    (z_int : PySem.W.nsIn K mainGlobals "int" = some none)
    (z_isinstance : PySem.W.nsIn K mainGlobals "isinstance" = some none)
    (z_len : PySem.W.nsIn K mainGlobals "len" = some none)
    (z_max : PySem.W.nsIn K mainGlobals "max" = some none)
    (z_min : PySem.W.nsIn K mainGlobals "min" = some none)
    (z_range : PySem.W.nsIn K mainGlobals "range" = some none)
    (z_repr : PySem.W.nsIn K mainGlobals "repr" = some none)
    (z_sum : PySem.W.nsIn K mainGlobals "sum" = some none)
    {C_Fault : Addr} (ac_Fault : PySem.W.nsIn K mainGlobals "Fault" = some (some (.ref C_Fault)))
    {C_NoAddress : Addr} (ac_NoAddress : PySem.W.nsIn K mainGlobals "NoAddress" = some (some (.ref C_NoAddress)))
    {C_NoBounds : Addr} (ac_NoBounds : PySem.W.nsIn K mainGlobals "NoBounds" = some (some (.ref C_NoBounds)))
    {C_NoCompartment : Addr} (ac_NoCompartment : PySem.W.nsIn K mainGlobals "NoCompartment" = some (some (.ref C_NoCompartment)))
    {C_NoDeeds : Addr} (ac_NoDeeds : PySem.W.nsIn K mainGlobals "NoDeeds" = some (some (.ref C_NoDeeds)))
    {C_NoFields : Addr} (ac_NoFields : PySem.W.nsIn K mainGlobals "NoFields" = some (some (.ref C_NoFields)))
    {C_NoHands : Addr} (ac_NoHands : PySem.W.nsIn K mainGlobals "NoHands" = some (some (.ref C_NoHands)))
    {C_NoLine : Addr} (ac_NoLine : PySem.W.nsIn K mainGlobals "NoLine" = some (some (.ref C_NoLine)))
    {C_NoName : Addr} (ac_NoName : PySem.W.nsIn K mainGlobals "NoName" = some (some (.ref C_NoName)))
    {C_NoNumber : Addr} (ac_NoNumber : PySem.W.nsIn K mainGlobals "NoNumber" = some (some (.ref C_NoNumber)))
    {C_NoOffset : Addr} (ac_NoOffset : PySem.W.nsIn K mainGlobals "NoOffset" = some (some (.ref C_NoOffset)))
    {C_NoRows : Addr} (ac_NoRows : PySem.W.nsIn K mainGlobals "NoRows" = some (some (.ref C_NoRows)))
    {C_NoRule : Addr} (ac_NoRule : PySem.W.nsIn K mainGlobals "NoRule" = some (some (.ref C_NoRule)))
    {C_NoSweep : Addr} (ac_NoSweep : PySem.W.nsIn K mainGlobals "NoSweep" = some (some (.ref C_NoSweep)))
    {C_NoText : Addr} (ac_NoText : PySem.W.nsIn K mainGlobals "NoText" = some (some (.ref C_NoText)))
    {C_NoWord : Addr} (ac_NoWord : PySem.W.nsIn K mainGlobals "NoWord" = some (some (.ref C_NoWord)))
    {C_ReachError : Addr} (ac_ReachError : PySem.W.nsIn K mainGlobals "ReachError" = some (some (.ref C_ReachError)))
    {C_Sweeping : Addr} (ac_Sweeping : PySem.W.nsIn K mainGlobals "Sweeping" = some (some (.ref C_Sweeping)))
    {C_TooMany : Addr} (ac_TooMany : PySem.W.nsIn K mainGlobals "TooMany" = some (some (.ref C_TooMany)))
    {nm_Fault q_Fault : Str} {N_Fault B_Fault fi_Fault : Addr} {bs_Fault : List Value} {sn_Fault : List Str} {sub_Fault : List Value} {ab_Fault : Bool} {col_Fault : Option Bool} {dd_Fault od_Fault an_Fault : Option Addr} {m0_Fault m1_Fault m2_Fault m3_Fault m5_Fault : Option Value} {oc_Fault kV_Fault dc_Fault pm_Fault cd_Fault ct_Fault : Value} {osl_Fault : Array (Option Value)}
    (xl_Fault : K.lookup C_Fault = some (excClassObj nm_Fault q_Fault C_Fault N_Fault bs_Fault [.ref B_Fault, .type "ValueError", .type "Exception", .type "BaseException", .type "object"] true sn_Fault sub_Fault ab_Fault col_Fault dd_Fault m0_Fault m1_Fault m2_Fault m3_Fault m5_Fault "ValueError.__new__"))
    (sa_Fault : PySem.W.findIn K (.ref C_Fault) "__setattr__" = some (some (.builtin "object.__setattr__")))
    (eb_Fault : PySem.W.subIn K (.ref C_Fault) (.type "BaseException") = some true)
    (ty_Fault : PySem.W.typeIn K (.ref C_Fault) = some (.type "type"))
    (kc_Fault : PySem.W.keepIn K (.ref C_Fault) = true)
    (no_Fault : PySem.W.findIn K (.ref C_Fault) "word" = some none)
    (in_Fault : PySem.W.findIn K (.ref C_Fault) "__init__" = some (some (.ref fi_Fault))) (ti_Fault : PySem.W.typeIn K (.ref fi_Fault) = some (.type "function"))
    (li_Fault : K.lookup fi_Fault = some ⟨oc_Fault, od_Fault, .func (PySem.W.fnOf "__init__" "Fault.__init__" (defArgs si_Fault) (defBody si_Fault) (defScope si_Fault) .none kV_Fault dc_Fault pm_Fault an_Fault cd_Fault ct_Fault), osl_Fault⟩) (ci_Fault : PySem.W.codeIn K cd_Fault "Fault.__init__" = true) (ki_Fault : PySem.W.keepIn K (.ref fi_Fault) = true)
    {nm_NoAddress q_NoAddress : Str} {N_NoAddress B_NoAddress fi_NoAddress : Addr} {bs_NoAddress : List Value} {sn_NoAddress : List Str} {sub_NoAddress : List Value} {ab_NoAddress : Bool} {col_NoAddress : Option Bool} {dd_NoAddress od_NoAddress an_NoAddress : Option Addr} {m0_NoAddress m1_NoAddress m2_NoAddress m3_NoAddress m5_NoAddress : Option Value} {oc_NoAddress kV_NoAddress dc_NoAddress pm_NoAddress cd_NoAddress ct_NoAddress : Value} {osl_NoAddress : Array (Option Value)}
    (xl_NoAddress : K.lookup C_NoAddress = some (excClassObj nm_NoAddress q_NoAddress C_NoAddress N_NoAddress bs_NoAddress [.ref B_NoAddress, .type "ValueError", .type "Exception", .type "BaseException", .type "object"] true sn_NoAddress sub_NoAddress ab_NoAddress col_NoAddress dd_NoAddress m0_NoAddress m1_NoAddress m2_NoAddress m3_NoAddress m5_NoAddress "ValueError.__new__"))
    (sa_NoAddress : PySem.W.findIn K (.ref C_NoAddress) "__setattr__" = some (some (.builtin "object.__setattr__")))
    (eb_NoAddress : PySem.W.subIn K (.ref C_NoAddress) (.type "BaseException") = some true)
    (ty_NoAddress : PySem.W.typeIn K (.ref C_NoAddress) = some (.type "type"))
    (kc_NoAddress : PySem.W.keepIn K (.ref C_NoAddress) = true)
    (no_NoAddress : PySem.W.findIn K (.ref C_NoAddress) "text" = some none)
    (in_NoAddress : PySem.W.findIn K (.ref C_NoAddress) "__init__" = some (some (.ref fi_NoAddress))) (ti_NoAddress : PySem.W.typeIn K (.ref fi_NoAddress) = some (.type "function"))
    (li_NoAddress : K.lookup fi_NoAddress = some ⟨oc_NoAddress, od_NoAddress, .func (PySem.W.fnOf "__init__" "NoAddress.__init__" (defArgs si_NoAddress) (defBody si_NoAddress) (defScope si_NoAddress) .none kV_NoAddress dc_NoAddress pm_NoAddress an_NoAddress cd_NoAddress ct_NoAddress), osl_NoAddress⟩) (ci_NoAddress : PySem.W.codeIn K cd_NoAddress "NoAddress.__init__" = true) (ki_NoAddress : PySem.W.keepIn K (.ref fi_NoAddress) = true)
    {nm_NoBounds q_NoBounds : Str} {N_NoBounds B_NoBounds fi_NoBounds : Addr} {bs_NoBounds : List Value} {sn_NoBounds : List Str} {sub_NoBounds : List Value} {ab_NoBounds : Bool} {col_NoBounds : Option Bool} {dd_NoBounds od_NoBounds an_NoBounds : Option Addr} {m0_NoBounds m1_NoBounds m2_NoBounds m3_NoBounds m5_NoBounds : Option Value} {oc_NoBounds kV_NoBounds dc_NoBounds pm_NoBounds cd_NoBounds ct_NoBounds : Value} {osl_NoBounds : Array (Option Value)}
    (xl_NoBounds : K.lookup C_NoBounds = some (excClassObj nm_NoBounds q_NoBounds C_NoBounds N_NoBounds bs_NoBounds [.ref B_NoBounds, .type "ValueError", .type "Exception", .type "BaseException", .type "object"] true sn_NoBounds sub_NoBounds ab_NoBounds col_NoBounds dd_NoBounds m0_NoBounds m1_NoBounds m2_NoBounds m3_NoBounds m5_NoBounds "ValueError.__new__"))
    (sa_NoBounds : PySem.W.findIn K (.ref C_NoBounds) "__setattr__" = some (some (.builtin "object.__setattr__")))
    (eb_NoBounds : PySem.W.subIn K (.ref C_NoBounds) (.type "BaseException") = some true)
    (ty_NoBounds : PySem.W.typeIn K (.ref C_NoBounds) = some (.type "type"))
    (kc_NoBounds : PySem.W.keepIn K (.ref C_NoBounds) = true)
    (no_NoBounds : PySem.W.findIn K (.ref C_NoBounds) "text" = some none)
    (in_NoBounds : PySem.W.findIn K (.ref C_NoBounds) "__init__" = some (some (.ref fi_NoBounds))) (ti_NoBounds : PySem.W.typeIn K (.ref fi_NoBounds) = some (.type "function"))
    (li_NoBounds : K.lookup fi_NoBounds = some ⟨oc_NoBounds, od_NoBounds, .func (PySem.W.fnOf "__init__" "NoBounds.__init__" (defArgs si_NoBounds) (defBody si_NoBounds) (defScope si_NoBounds) .none kV_NoBounds dc_NoBounds pm_NoBounds an_NoBounds cd_NoBounds ct_NoBounds), osl_NoBounds⟩) (ci_NoBounds : PySem.W.codeIn K cd_NoBounds "NoBounds.__init__" = true) (ki_NoBounds : PySem.W.keepIn K (.ref fi_NoBounds) = true)
    {nm_NoCompartment q_NoCompartment : Str} {N_NoCompartment B_NoCompartment fi_NoCompartment : Addr} {bs_NoCompartment : List Value} {sn_NoCompartment : List Str} {sub_NoCompartment : List Value} {ab_NoCompartment : Bool} {col_NoCompartment : Option Bool} {dd_NoCompartment od_NoCompartment an_NoCompartment : Option Addr} {m0_NoCompartment m1_NoCompartment m2_NoCompartment m3_NoCompartment m5_NoCompartment : Option Value} {oc_NoCompartment kV_NoCompartment dc_NoCompartment pm_NoCompartment cd_NoCompartment ct_NoCompartment : Value} {osl_NoCompartment : Array (Option Value)}
    (xl_NoCompartment : K.lookup C_NoCompartment = some (excClassObj nm_NoCompartment q_NoCompartment C_NoCompartment N_NoCompartment bs_NoCompartment [.ref B_NoCompartment, .type "ValueError", .type "Exception", .type "BaseException", .type "object"] true sn_NoCompartment sub_NoCompartment ab_NoCompartment col_NoCompartment dd_NoCompartment m0_NoCompartment m1_NoCompartment m2_NoCompartment m3_NoCompartment m5_NoCompartment "ValueError.__new__"))
    (sa_NoCompartment : PySem.W.findIn K (.ref C_NoCompartment) "__setattr__" = some (some (.builtin "object.__setattr__")))
    (eb_NoCompartment : PySem.W.subIn K (.ref C_NoCompartment) (.type "BaseException") = some true)
    (ty_NoCompartment : PySem.W.typeIn K (.ref C_NoCompartment) = some (.type "type"))
    (kc_NoCompartment : PySem.W.keepIn K (.ref C_NoCompartment) = true)
    (no_NoCompartment : PySem.W.findIn K (.ref C_NoCompartment) "number" = some none)
    (n2_NoCompartment : PySem.W.findIn K (.ref C_NoCompartment) "part" = some none)
    (in_NoCompartment : PySem.W.findIn K (.ref C_NoCompartment) "__init__" = some (some (.ref fi_NoCompartment))) (ti_NoCompartment : PySem.W.typeIn K (.ref fi_NoCompartment) = some (.type "function"))
    (li_NoCompartment : K.lookup fi_NoCompartment = some ⟨oc_NoCompartment, od_NoCompartment, .func (PySem.W.fnOf "__init__" "NoCompartment.__init__" (defArgs si_NoCompartment) (defBody si_NoCompartment) (defScope si_NoCompartment) .none kV_NoCompartment dc_NoCompartment pm_NoCompartment an_NoCompartment cd_NoCompartment ct_NoCompartment), osl_NoCompartment⟩) (ci_NoCompartment : PySem.W.codeIn K cd_NoCompartment "NoCompartment.__init__" = true) (ki_NoCompartment : PySem.W.keepIn K (.ref fi_NoCompartment) = true)
    {nm_NoDeeds q_NoDeeds : Str} {N_NoDeeds B_NoDeeds fi_NoDeeds : Addr} {bs_NoDeeds : List Value} {sn_NoDeeds : List Str} {sub_NoDeeds : List Value} {ab_NoDeeds : Bool} {col_NoDeeds : Option Bool} {dd_NoDeeds od_NoDeeds an_NoDeeds : Option Addr} {m0_NoDeeds m1_NoDeeds m2_NoDeeds m3_NoDeeds m5_NoDeeds : Option Value} {oc_NoDeeds kV_NoDeeds dc_NoDeeds pm_NoDeeds cd_NoDeeds ct_NoDeeds : Value} {osl_NoDeeds : Array (Option Value)}
    (xl_NoDeeds : K.lookup C_NoDeeds = some (excClassObj nm_NoDeeds q_NoDeeds C_NoDeeds N_NoDeeds bs_NoDeeds [.ref B_NoDeeds, .type "ValueError", .type "Exception", .type "BaseException", .type "object"] true sn_NoDeeds sub_NoDeeds ab_NoDeeds col_NoDeeds dd_NoDeeds m0_NoDeeds m1_NoDeeds m2_NoDeeds m3_NoDeeds m5_NoDeeds "ValueError.__new__"))
    (sa_NoDeeds : PySem.W.findIn K (.ref C_NoDeeds) "__setattr__" = some (some (.builtin "object.__setattr__")))
    (eb_NoDeeds : PySem.W.subIn K (.ref C_NoDeeds) (.type "BaseException") = some true)
    (ty_NoDeeds : PySem.W.typeIn K (.ref C_NoDeeds) = some (.type "type"))
    (kc_NoDeeds : PySem.W.keepIn K (.ref C_NoDeeds) = true)
    (no_NoDeeds : PySem.W.findIn K (.ref C_NoDeeds) "number" = some none)
    (in_NoDeeds : PySem.W.findIn K (.ref C_NoDeeds) "__init__" = some (some (.ref fi_NoDeeds))) (ti_NoDeeds : PySem.W.typeIn K (.ref fi_NoDeeds) = some (.type "function"))
    (li_NoDeeds : K.lookup fi_NoDeeds = some ⟨oc_NoDeeds, od_NoDeeds, .func (PySem.W.fnOf "__init__" "NoDeeds.__init__" (defArgs si_NoDeeds) (defBody si_NoDeeds) (defScope si_NoDeeds) .none kV_NoDeeds dc_NoDeeds pm_NoDeeds an_NoDeeds cd_NoDeeds ct_NoDeeds), osl_NoDeeds⟩) (ci_NoDeeds : PySem.W.codeIn K cd_NoDeeds "NoDeeds.__init__" = true) (ki_NoDeeds : PySem.W.keepIn K (.ref fi_NoDeeds) = true)
    {nm_NoFields q_NoFields : Str} {N_NoFields B_NoFields fi_NoFields : Addr} {bs_NoFields : List Value} {sn_NoFields : List Str} {sub_NoFields : List Value} {ab_NoFields : Bool} {col_NoFields : Option Bool} {dd_NoFields od_NoFields an_NoFields : Option Addr} {m0_NoFields m1_NoFields m2_NoFields m3_NoFields m5_NoFields : Option Value} {oc_NoFields kV_NoFields dc_NoFields pm_NoFields cd_NoFields ct_NoFields : Value} {osl_NoFields : Array (Option Value)}
    (xl_NoFields : K.lookup C_NoFields = some (excClassObj nm_NoFields q_NoFields C_NoFields N_NoFields bs_NoFields [.ref B_NoFields, .type "ValueError", .type "Exception", .type "BaseException", .type "object"] true sn_NoFields sub_NoFields ab_NoFields col_NoFields dd_NoFields m0_NoFields m1_NoFields m2_NoFields m3_NoFields m5_NoFields "ValueError.__new__"))
    (sa_NoFields : PySem.W.findIn K (.ref C_NoFields) "__setattr__" = some (some (.builtin "object.__setattr__")))
    (eb_NoFields : PySem.W.subIn K (.ref C_NoFields) (.type "BaseException") = some true)
    (ty_NoFields : PySem.W.typeIn K (.ref C_NoFields) = some (.type "type"))
    (kc_NoFields : PySem.W.keepIn K (.ref C_NoFields) = true)
    (no_NoFields : PySem.W.findIn K (.ref C_NoFields) "text" = some none)
    (in_NoFields : PySem.W.findIn K (.ref C_NoFields) "__init__" = some (some (.ref fi_NoFields))) (ti_NoFields : PySem.W.typeIn K (.ref fi_NoFields) = some (.type "function"))
    (li_NoFields : K.lookup fi_NoFields = some ⟨oc_NoFields, od_NoFields, .func (PySem.W.fnOf "__init__" "NoFields.__init__" (defArgs si_NoFields) (defBody si_NoFields) (defScope si_NoFields) .none kV_NoFields dc_NoFields pm_NoFields an_NoFields cd_NoFields ct_NoFields), osl_NoFields⟩) (ci_NoFields : PySem.W.codeIn K cd_NoFields "NoFields.__init__" = true) (ki_NoFields : PySem.W.keepIn K (.ref fi_NoFields) = true)
    {nm_NoHands q_NoHands : Str} {N_NoHands B_NoHands fi_NoHands : Addr} {bs_NoHands : List Value} {sn_NoHands : List Str} {sub_NoHands : List Value} {ab_NoHands : Bool} {col_NoHands : Option Bool} {dd_NoHands od_NoHands an_NoHands : Option Addr} {m0_NoHands m1_NoHands m2_NoHands m3_NoHands m5_NoHands : Option Value} {oc_NoHands kV_NoHands dc_NoHands pm_NoHands cd_NoHands ct_NoHands : Value} {osl_NoHands : Array (Option Value)}
    (xl_NoHands : K.lookup C_NoHands = some (excClassObj nm_NoHands q_NoHands C_NoHands N_NoHands bs_NoHands [.ref B_NoHands, .type "ValueError", .type "Exception", .type "BaseException", .type "object"] true sn_NoHands sub_NoHands ab_NoHands col_NoHands dd_NoHands m0_NoHands m1_NoHands m2_NoHands m3_NoHands m5_NoHands "ValueError.__new__"))
    (sa_NoHands : PySem.W.findIn K (.ref C_NoHands) "__setattr__" = some (some (.builtin "object.__setattr__")))
    (eb_NoHands : PySem.W.subIn K (.ref C_NoHands) (.type "BaseException") = some true)
    (ty_NoHands : PySem.W.typeIn K (.ref C_NoHands) = some (.type "type"))
    (kc_NoHands : PySem.W.keepIn K (.ref C_NoHands) = true)
    (no_NoHands : PySem.W.findIn K (.ref C_NoHands) "text" = some none)
    (in_NoHands : PySem.W.findIn K (.ref C_NoHands) "__init__" = some (some (.ref fi_NoHands))) (ti_NoHands : PySem.W.typeIn K (.ref fi_NoHands) = some (.type "function"))
    (li_NoHands : K.lookup fi_NoHands = some ⟨oc_NoHands, od_NoHands, .func (PySem.W.fnOf "__init__" "NoHands.__init__" (defArgs si_NoHands) (defBody si_NoHands) (defScope si_NoHands) .none kV_NoHands dc_NoHands pm_NoHands an_NoHands cd_NoHands ct_NoHands), osl_NoHands⟩) (ci_NoHands : PySem.W.codeIn K cd_NoHands "NoHands.__init__" = true) (ki_NoHands : PySem.W.keepIn K (.ref fi_NoHands) = true)
    {nm_NoLine q_NoLine : Str} {N_NoLine B_NoLine fi_NoLine : Addr} {bs_NoLine : List Value} {sn_NoLine : List Str} {sub_NoLine : List Value} {ab_NoLine : Bool} {col_NoLine : Option Bool} {dd_NoLine od_NoLine an_NoLine : Option Addr} {m0_NoLine m1_NoLine m2_NoLine m3_NoLine m5_NoLine : Option Value} {oc_NoLine kV_NoLine dc_NoLine pm_NoLine cd_NoLine ct_NoLine : Value} {osl_NoLine : Array (Option Value)}
    (xl_NoLine : K.lookup C_NoLine = some (excClassObj nm_NoLine q_NoLine C_NoLine N_NoLine bs_NoLine [.ref B_NoLine, .type "ValueError", .type "Exception", .type "BaseException", .type "object"] true sn_NoLine sub_NoLine ab_NoLine col_NoLine dd_NoLine m0_NoLine m1_NoLine m2_NoLine m3_NoLine m5_NoLine "ValueError.__new__"))
    (sa_NoLine : PySem.W.findIn K (.ref C_NoLine) "__setattr__" = some (some (.builtin "object.__setattr__")))
    (eb_NoLine : PySem.W.subIn K (.ref C_NoLine) (.type "BaseException") = some true)
    (ty_NoLine : PySem.W.typeIn K (.ref C_NoLine) = some (.type "type"))
    (kc_NoLine : PySem.W.keepIn K (.ref C_NoLine) = true)
    (no_NoLine : PySem.W.findIn K (.ref C_NoLine) "text" = some none)
    (in_NoLine : PySem.W.findIn K (.ref C_NoLine) "__init__" = some (some (.ref fi_NoLine))) (ti_NoLine : PySem.W.typeIn K (.ref fi_NoLine) = some (.type "function"))
    (li_NoLine : K.lookup fi_NoLine = some ⟨oc_NoLine, od_NoLine, .func (PySem.W.fnOf "__init__" "NoLine.__init__" (defArgs si_NoLine) (defBody si_NoLine) (defScope si_NoLine) .none kV_NoLine dc_NoLine pm_NoLine an_NoLine cd_NoLine ct_NoLine), osl_NoLine⟩) (ci_NoLine : PySem.W.codeIn K cd_NoLine "NoLine.__init__" = true) (ki_NoLine : PySem.W.keepIn K (.ref fi_NoLine) = true)
    {nm_NoName q_NoName : Str} {N_NoName fi_NoName : Addr} {bs_NoName : List Value} {sn_NoName : List Str} {sub_NoName : List Value} {ab_NoName : Bool} {col_NoName : Option Bool} {dd_NoName od_NoName an_NoName : Option Addr} {m0_NoName m1_NoName m2_NoName m3_NoName m5_NoName : Option Value} {oc_NoName kV_NoName dc_NoName pm_NoName cd_NoName ct_NoName : Value} {osl_NoName : Array (Option Value)}
    (xl_NoName : K.lookup C_NoName = some (excClassObj nm_NoName q_NoName C_NoName N_NoName bs_NoName [.type "KeyError", .type "LookupError", .type "Exception", .type "BaseException", .type "object"] true sn_NoName sub_NoName ab_NoName col_NoName dd_NoName m0_NoName m1_NoName m2_NoName m3_NoName m5_NoName "LookupError.__new__"))
    (sa_NoName : PySem.W.findIn K (.ref C_NoName) "__setattr__" = some (some (.builtin "object.__setattr__")))
    (eb_NoName : PySem.W.subIn K (.ref C_NoName) (.type "BaseException") = some true)
    (ty_NoName : PySem.W.typeIn K (.ref C_NoName) = some (.type "type"))
    (kc_NoName : PySem.W.keepIn K (.ref C_NoName) = true)
    (no_NoName : PySem.W.findIn K (.ref C_NoName) "name" = some none)
    (in_NoName : PySem.W.findIn K (.ref C_NoName) "__init__" = some (some (.ref fi_NoName))) (ti_NoName : PySem.W.typeIn K (.ref fi_NoName) = some (.type "function"))
    (li_NoName : K.lookup fi_NoName = some ⟨oc_NoName, od_NoName, .func (PySem.W.fnOf "__init__" "NoName.__init__" (defArgs si_NoName) (defBody si_NoName) (defScope si_NoName) .none kV_NoName dc_NoName pm_NoName an_NoName cd_NoName ct_NoName), osl_NoName⟩) (ci_NoName : PySem.W.codeIn K cd_NoName "NoName.__init__" = true) (ki_NoName : PySem.W.keepIn K (.ref fi_NoName) = true)
    {nm_NoNumber q_NoNumber : Str} {N_NoNumber B_NoNumber fi_NoNumber : Addr} {bs_NoNumber : List Value} {sn_NoNumber : List Str} {sub_NoNumber : List Value} {ab_NoNumber : Bool} {col_NoNumber : Option Bool} {dd_NoNumber od_NoNumber an_NoNumber : Option Addr} {m0_NoNumber m1_NoNumber m2_NoNumber m3_NoNumber m5_NoNumber : Option Value} {oc_NoNumber kV_NoNumber dc_NoNumber pm_NoNumber cd_NoNumber ct_NoNumber : Value} {osl_NoNumber : Array (Option Value)}
    (xl_NoNumber : K.lookup C_NoNumber = some (excClassObj nm_NoNumber q_NoNumber C_NoNumber N_NoNumber bs_NoNumber [.ref B_NoNumber, .type "ValueError", .type "Exception", .type "BaseException", .type "object"] true sn_NoNumber sub_NoNumber ab_NoNumber col_NoNumber dd_NoNumber m0_NoNumber m1_NoNumber m2_NoNumber m3_NoNumber m5_NoNumber "ValueError.__new__"))
    (sa_NoNumber : PySem.W.findIn K (.ref C_NoNumber) "__setattr__" = some (some (.builtin "object.__setattr__")))
    (eb_NoNumber : PySem.W.subIn K (.ref C_NoNumber) (.type "BaseException") = some true)
    (ty_NoNumber : PySem.W.typeIn K (.ref C_NoNumber) = some (.type "type"))
    (kc_NoNumber : PySem.W.keepIn K (.ref C_NoNumber) = true)
    (no_NoNumber : PySem.W.findIn K (.ref C_NoNumber) "text" = some none)
    (in_NoNumber : PySem.W.findIn K (.ref C_NoNumber) "__init__" = some (some (.ref fi_NoNumber))) (ti_NoNumber : PySem.W.typeIn K (.ref fi_NoNumber) = some (.type "function"))
    (li_NoNumber : K.lookup fi_NoNumber = some ⟨oc_NoNumber, od_NoNumber, .func (PySem.W.fnOf "__init__" "NoNumber.__init__" (defArgs si_NoNumber) (defBody si_NoNumber) (defScope si_NoNumber) .none kV_NoNumber dc_NoNumber pm_NoNumber an_NoNumber cd_NoNumber ct_NoNumber), osl_NoNumber⟩) (ci_NoNumber : PySem.W.codeIn K cd_NoNumber "NoNumber.__init__" = true) (ki_NoNumber : PySem.W.keepIn K (.ref fi_NoNumber) = true)
    {nm_NoOffset q_NoOffset : Str} {N_NoOffset B_NoOffset fi_NoOffset : Addr} {bs_NoOffset : List Value} {sn_NoOffset : List Str} {sub_NoOffset : List Value} {ab_NoOffset : Bool} {col_NoOffset : Option Bool} {dd_NoOffset od_NoOffset an_NoOffset : Option Addr} {m0_NoOffset m1_NoOffset m2_NoOffset m3_NoOffset m5_NoOffset : Option Value} {oc_NoOffset kV_NoOffset dc_NoOffset pm_NoOffset cd_NoOffset ct_NoOffset : Value} {osl_NoOffset : Array (Option Value)}
    (xl_NoOffset : K.lookup C_NoOffset = some (excClassObj nm_NoOffset q_NoOffset C_NoOffset N_NoOffset bs_NoOffset [.ref B_NoOffset, .type "ValueError", .type "Exception", .type "BaseException", .type "object"] true sn_NoOffset sub_NoOffset ab_NoOffset col_NoOffset dd_NoOffset m0_NoOffset m1_NoOffset m2_NoOffset m3_NoOffset m5_NoOffset "ValueError.__new__"))
    (sa_NoOffset : PySem.W.findIn K (.ref C_NoOffset) "__setattr__" = some (some (.builtin "object.__setattr__")))
    (eb_NoOffset : PySem.W.subIn K (.ref C_NoOffset) (.type "BaseException") = some true)
    (ty_NoOffset : PySem.W.typeIn K (.ref C_NoOffset) = some (.type "type"))
    (kc_NoOffset : PySem.W.keepIn K (.ref C_NoOffset) = true)
    (no_NoOffset : PySem.W.findIn K (.ref C_NoOffset) "text" = some none)
    (in_NoOffset : PySem.W.findIn K (.ref C_NoOffset) "__init__" = some (some (.ref fi_NoOffset))) (ti_NoOffset : PySem.W.typeIn K (.ref fi_NoOffset) = some (.type "function"))
    (li_NoOffset : K.lookup fi_NoOffset = some ⟨oc_NoOffset, od_NoOffset, .func (PySem.W.fnOf "__init__" "NoOffset.__init__" (defArgs si_NoOffset) (defBody si_NoOffset) (defScope si_NoOffset) .none kV_NoOffset dc_NoOffset pm_NoOffset an_NoOffset cd_NoOffset ct_NoOffset), osl_NoOffset⟩) (ci_NoOffset : PySem.W.codeIn K cd_NoOffset "NoOffset.__init__" = true) (ki_NoOffset : PySem.W.keepIn K (.ref fi_NoOffset) = true)
    {nm_NoRows q_NoRows : Str} {N_NoRows B_NoRows fi_NoRows : Addr} {bs_NoRows : List Value} {sn_NoRows : List Str} {sub_NoRows : List Value} {ab_NoRows : Bool} {col_NoRows : Option Bool} {dd_NoRows od_NoRows an_NoRows : Option Addr} {m0_NoRows m1_NoRows m2_NoRows m3_NoRows m5_NoRows : Option Value} {oc_NoRows kV_NoRows dc_NoRows pm_NoRows cd_NoRows ct_NoRows : Value} {osl_NoRows : Array (Option Value)}
    (xl_NoRows : K.lookup C_NoRows = some (excClassObj nm_NoRows q_NoRows C_NoRows N_NoRows bs_NoRows [.ref B_NoRows, .type "ValueError", .type "Exception", .type "BaseException", .type "object"] true sn_NoRows sub_NoRows ab_NoRows col_NoRows dd_NoRows m0_NoRows m1_NoRows m2_NoRows m3_NoRows m5_NoRows "ValueError.__new__"))
    (sa_NoRows : PySem.W.findIn K (.ref C_NoRows) "__setattr__" = some (some (.builtin "object.__setattr__")))
    (eb_NoRows : PySem.W.subIn K (.ref C_NoRows) (.type "BaseException") = some true)
    (ty_NoRows : PySem.W.typeIn K (.ref C_NoRows) = some (.type "type"))
    (kc_NoRows : PySem.W.keepIn K (.ref C_NoRows) = true)
    (no_NoRows : PySem.W.findIn K (.ref C_NoRows) "number" = some none)
    (in_NoRows : PySem.W.findIn K (.ref C_NoRows) "__init__" = some (some (.ref fi_NoRows))) (ti_NoRows : PySem.W.typeIn K (.ref fi_NoRows) = some (.type "function"))
    (li_NoRows : K.lookup fi_NoRows = some ⟨oc_NoRows, od_NoRows, .func (PySem.W.fnOf "__init__" "NoRows.__init__" (defArgs si_NoRows) (defBody si_NoRows) (defScope si_NoRows) .none kV_NoRows dc_NoRows pm_NoRows an_NoRows cd_NoRows ct_NoRows), osl_NoRows⟩) (ci_NoRows : PySem.W.codeIn K cd_NoRows "NoRows.__init__" = true) (ki_NoRows : PySem.W.keepIn K (.ref fi_NoRows) = true)
    {nm_NoRule q_NoRule : Str} {N_NoRule B_NoRule fi_NoRule : Addr} {bs_NoRule : List Value} {sn_NoRule : List Str} {sub_NoRule : List Value} {ab_NoRule : Bool} {col_NoRule : Option Bool} {dd_NoRule od_NoRule an_NoRule : Option Addr} {m0_NoRule m1_NoRule m2_NoRule m3_NoRule m5_NoRule : Option Value} {oc_NoRule kV_NoRule dc_NoRule pm_NoRule cd_NoRule ct_NoRule : Value} {osl_NoRule : Array (Option Value)}
    (xl_NoRule : K.lookup C_NoRule = some (excClassObj nm_NoRule q_NoRule C_NoRule N_NoRule bs_NoRule [.ref B_NoRule, .type "ValueError", .type "Exception", .type "BaseException", .type "object"] true sn_NoRule sub_NoRule ab_NoRule col_NoRule dd_NoRule m0_NoRule m1_NoRule m2_NoRule m3_NoRule m5_NoRule "ValueError.__new__"))
    (sa_NoRule : PySem.W.findIn K (.ref C_NoRule) "__setattr__" = some (some (.builtin "object.__setattr__")))
    (eb_NoRule : PySem.W.subIn K (.ref C_NoRule) (.type "BaseException") = some true)
    (ty_NoRule : PySem.W.typeIn K (.ref C_NoRule) = some (.type "type"))
    (kc_NoRule : PySem.W.keepIn K (.ref C_NoRule) = true)
    (no_NoRule : PySem.W.findIn K (.ref C_NoRule) "text" = some none)
    (in_NoRule : PySem.W.findIn K (.ref C_NoRule) "__init__" = some (some (.ref fi_NoRule))) (ti_NoRule : PySem.W.typeIn K (.ref fi_NoRule) = some (.type "function"))
    (li_NoRule : K.lookup fi_NoRule = some ⟨oc_NoRule, od_NoRule, .func (PySem.W.fnOf "__init__" "NoRule.__init__" (defArgs si_NoRule) (defBody si_NoRule) (defScope si_NoRule) .none kV_NoRule dc_NoRule pm_NoRule an_NoRule cd_NoRule ct_NoRule), osl_NoRule⟩) (ci_NoRule : PySem.W.codeIn K cd_NoRule "NoRule.__init__" = true) (ki_NoRule : PySem.W.keepIn K (.ref fi_NoRule) = true)
    {nm_NoSweep q_NoSweep : Str} {N_NoSweep fi_NoSweep : Addr} {bs_NoSweep : List Value} {sn_NoSweep : List Str} {sub_NoSweep : List Value} {ab_NoSweep : Bool} {col_NoSweep : Option Bool} {dd_NoSweep od_NoSweep an_NoSweep : Option Addr} {m0_NoSweep m1_NoSweep m2_NoSweep m3_NoSweep m5_NoSweep : Option Value} {oc_NoSweep kV_NoSweep dc_NoSweep pm_NoSweep cd_NoSweep ct_NoSweep : Value} {osl_NoSweep : Array (Option Value)}
    (xl_NoSweep : K.lookup C_NoSweep = some (excClassObj nm_NoSweep q_NoSweep C_NoSweep N_NoSweep bs_NoSweep [.type "LookupError", .type "Exception", .type "BaseException", .type "object"] true sn_NoSweep sub_NoSweep ab_NoSweep col_NoSweep dd_NoSweep m0_NoSweep m1_NoSweep m2_NoSweep m3_NoSweep m5_NoSweep "LookupError.__new__"))
    (sa_NoSweep : PySem.W.findIn K (.ref C_NoSweep) "__setattr__" = some (some (.builtin "object.__setattr__")))
    (eb_NoSweep : PySem.W.subIn K (.ref C_NoSweep) (.type "BaseException") = some true)
    (ty_NoSweep : PySem.W.typeIn K (.ref C_NoSweep) = some (.type "type"))
    (kc_NoSweep : PySem.W.keepIn K (.ref C_NoSweep) = true)
    (no_NoSweep : PySem.W.findIn K (.ref C_NoSweep) "text" = some none)
    (in_NoSweep : PySem.W.findIn K (.ref C_NoSweep) "__init__" = some (some (.ref fi_NoSweep))) (ti_NoSweep : PySem.W.typeIn K (.ref fi_NoSweep) = some (.type "function"))
    (li_NoSweep : K.lookup fi_NoSweep = some ⟨oc_NoSweep, od_NoSweep, .func (PySem.W.fnOf "__init__" "NoSweep.__init__" (defArgs si_NoSweep) (defBody si_NoSweep) (defScope si_NoSweep) .none kV_NoSweep dc_NoSweep pm_NoSweep an_NoSweep cd_NoSweep ct_NoSweep), osl_NoSweep⟩) (ci_NoSweep : PySem.W.codeIn K cd_NoSweep "NoSweep.__init__" = true) (ki_NoSweep : PySem.W.keepIn K (.ref fi_NoSweep) = true)
    {nm_NoText q_NoText : Str} {N_NoText B_NoText fi_NoText : Addr} {bs_NoText : List Value} {sn_NoText : List Str} {sub_NoText : List Value} {ab_NoText : Bool} {col_NoText : Option Bool} {dd_NoText od_NoText an_NoText : Option Addr} {m0_NoText m1_NoText m2_NoText m3_NoText m5_NoText : Option Value} {oc_NoText kV_NoText dc_NoText pm_NoText cd_NoText ct_NoText : Value} {osl_NoText : Array (Option Value)}
    (xl_NoText : K.lookup C_NoText = some (excClassObj nm_NoText q_NoText C_NoText N_NoText bs_NoText [.ref B_NoText, .type "ValueError", .type "Exception", .type "BaseException", .type "object"] true sn_NoText sub_NoText ab_NoText col_NoText dd_NoText m0_NoText m1_NoText m2_NoText m3_NoText m5_NoText "ValueError.__new__"))
    (sa_NoText : PySem.W.findIn K (.ref C_NoText) "__setattr__" = some (some (.builtin "object.__setattr__")))
    (eb_NoText : PySem.W.subIn K (.ref C_NoText) (.type "BaseException") = some true)
    (ty_NoText : PySem.W.typeIn K (.ref C_NoText) = some (.type "type"))
    (kc_NoText : PySem.W.keepIn K (.ref C_NoText) = true)
    (no_NoText : PySem.W.findIn K (.ref C_NoText) "number" = some none)
    (in_NoText : PySem.W.findIn K (.ref C_NoText) "__init__" = some (some (.ref fi_NoText))) (ti_NoText : PySem.W.typeIn K (.ref fi_NoText) = some (.type "function"))
    (li_NoText : K.lookup fi_NoText = some ⟨oc_NoText, od_NoText, .func (PySem.W.fnOf "__init__" "NoText.__init__" (defArgs si_NoText) (defBody si_NoText) (defScope si_NoText) .none kV_NoText dc_NoText pm_NoText an_NoText cd_NoText ct_NoText), osl_NoText⟩) (ci_NoText : PySem.W.codeIn K cd_NoText "NoText.__init__" = true) (ki_NoText : PySem.W.keepIn K (.ref fi_NoText) = true)
    {nm_NoWord q_NoWord : Str} {N_NoWord B_NoWord fi_NoWord : Addr} {bs_NoWord : List Value} {sn_NoWord : List Str} {sub_NoWord : List Value} {ab_NoWord : Bool} {col_NoWord : Option Bool} {dd_NoWord od_NoWord an_NoWord : Option Addr} {m0_NoWord m1_NoWord m2_NoWord m3_NoWord m5_NoWord : Option Value} {oc_NoWord kV_NoWord dc_NoWord pm_NoWord cd_NoWord ct_NoWord : Value} {osl_NoWord : Array (Option Value)}
    (xl_NoWord : K.lookup C_NoWord = some (excClassObj nm_NoWord q_NoWord C_NoWord N_NoWord bs_NoWord [.ref B_NoWord, .type "ValueError", .type "Exception", .type "BaseException", .type "object"] true sn_NoWord sub_NoWord ab_NoWord col_NoWord dd_NoWord m0_NoWord m1_NoWord m2_NoWord m3_NoWord m5_NoWord "ValueError.__new__"))
    (sa_NoWord : PySem.W.findIn K (.ref C_NoWord) "__setattr__" = some (some (.builtin "object.__setattr__")))
    (eb_NoWord : PySem.W.subIn K (.ref C_NoWord) (.type "BaseException") = some true)
    (ty_NoWord : PySem.W.typeIn K (.ref C_NoWord) = some (.type "type"))
    (kc_NoWord : PySem.W.keepIn K (.ref C_NoWord) = true)
    (no_NoWord : PySem.W.findIn K (.ref C_NoWord) "text" = some none)
    (in_NoWord : PySem.W.findIn K (.ref C_NoWord) "__init__" = some (some (.ref fi_NoWord))) (ti_NoWord : PySem.W.typeIn K (.ref fi_NoWord) = some (.type "function"))
    (li_NoWord : K.lookup fi_NoWord = some ⟨oc_NoWord, od_NoWord, .func (PySem.W.fnOf "__init__" "NoWord.__init__" (defArgs si_NoWord) (defBody si_NoWord) (defScope si_NoWord) .none kV_NoWord dc_NoWord pm_NoWord an_NoWord cd_NoWord ct_NoWord), osl_NoWord⟩) (ci_NoWord : PySem.W.codeIn K cd_NoWord "NoWord.__init__" = true) (ki_NoWord : PySem.W.keepIn K (.ref fi_NoWord) = true)
    {nm_Sweeping q_Sweeping : Str} {N_Sweeping fi_Sweeping : Addr} {bs_Sweeping : List Value} {sn_Sweeping : List Str} {sub_Sweeping : List Value} {ab_Sweeping : Bool} {col_Sweeping : Option Bool} {dd_Sweeping od_Sweeping an_Sweeping : Option Addr} {m0_Sweeping m1_Sweeping m2_Sweeping m3_Sweeping m5_Sweeping : Option Value} {oc_Sweeping kV_Sweeping dc_Sweeping pm_Sweeping cd_Sweeping ct_Sweeping : Value} {osl_Sweeping : Array (Option Value)}
    (xl_Sweeping : K.lookup C_Sweeping = some (excClassObj nm_Sweeping q_Sweeping C_Sweeping N_Sweeping bs_Sweeping [.type "RuntimeError", .type "Exception", .type "BaseException", .type "object"] true sn_Sweeping sub_Sweeping ab_Sweeping col_Sweeping dd_Sweeping m0_Sweeping m1_Sweeping m2_Sweeping m3_Sweeping m5_Sweeping "RuntimeError.__new__"))
    (sa_Sweeping : PySem.W.findIn K (.ref C_Sweeping) "__setattr__" = some (some (.builtin "object.__setattr__")))
    (eb_Sweeping : PySem.W.subIn K (.ref C_Sweeping) (.type "BaseException") = some true)
    (ty_Sweeping : PySem.W.typeIn K (.ref C_Sweeping) = some (.type "type"))
    (kc_Sweeping : PySem.W.keepIn K (.ref C_Sweeping) = true)
    (no_Sweeping : PySem.W.findIn K (.ref C_Sweeping) "text" = some none)
    (in_Sweeping : PySem.W.findIn K (.ref C_Sweeping) "__init__" = some (some (.ref fi_Sweeping))) (ti_Sweeping : PySem.W.typeIn K (.ref fi_Sweeping) = some (.type "function"))
    (li_Sweeping : K.lookup fi_Sweeping = some ⟨oc_Sweeping, od_Sweeping, .func (PySem.W.fnOf "__init__" "Sweeping.__init__" (defArgs si_Sweeping) (defBody si_Sweeping) (defScope si_Sweeping) .none kV_Sweeping dc_Sweeping pm_Sweeping an_Sweeping cd_Sweeping ct_Sweeping), osl_Sweeping⟩) (ci_Sweeping : PySem.W.codeIn K cd_Sweeping "Sweeping.__init__" = true) (ki_Sweeping : PySem.W.keepIn K (.ref fi_Sweeping) = true)
    {nm_TooMany q_TooMany : Str} {N_TooMany fi_TooMany : Addr} {bs_TooMany : List Value} {sn_TooMany : List Str} {sub_TooMany : List Value} {ab_TooMany : Bool} {col_TooMany : Option Bool} {dd_TooMany od_TooMany an_TooMany : Option Addr} {m0_TooMany m1_TooMany m2_TooMany m3_TooMany m5_TooMany : Option Value} {oc_TooMany kV_TooMany dc_TooMany pm_TooMany cd_TooMany ct_TooMany : Value} {osl_TooMany : Array (Option Value)}
    (xl_TooMany : K.lookup C_TooMany = some (excClassObj nm_TooMany q_TooMany C_TooMany N_TooMany bs_TooMany [.type "OverflowError", .type "ArithmeticError", .type "Exception", .type "BaseException", .type "object"] true sn_TooMany sub_TooMany ab_TooMany col_TooMany dd_TooMany m0_TooMany m1_TooMany m2_TooMany m3_TooMany m5_TooMany "OverflowError.__new__"))
    (sa_TooMany : PySem.W.findIn K (.ref C_TooMany) "__setattr__" = some (some (.builtin "object.__setattr__")))
    (eb_TooMany : PySem.W.subIn K (.ref C_TooMany) (.type "BaseException") = some true)
    (ty_TooMany : PySem.W.typeIn K (.ref C_TooMany) = some (.type "type"))
    (kc_TooMany : PySem.W.keepIn K (.ref C_TooMany) = true)
    (no_TooMany : PySem.W.findIn K (.ref C_TooMany) "size" = some none)
    (in_TooMany : PySem.W.findIn K (.ref C_TooMany) "__init__" = some (some (.ref fi_TooMany))) (ti_TooMany : PySem.W.typeIn K (.ref fi_TooMany) = some (.type "function"))
    (li_TooMany : K.lookup fi_TooMany = some ⟨oc_TooMany, od_TooMany, .func (PySem.W.fnOf "__init__" "TooMany.__init__" (defArgs si_TooMany) (defBody si_TooMany) (defScope si_TooMany) .none kV_TooMany dc_TooMany pm_TooMany an_TooMany cd_TooMany ct_TooMany), osl_TooMany⟩) (ci_TooMany : PySem.W.codeIn K cd_TooMany "TooMany.__init__" = true) (ki_TooMany : PySem.W.keepIn K (.ref fi_TooMany) = true)
    (ecg_NoFields : PySem.W.findIn K (.ref C_NoFields) "__getattribute__" = some (some (.builtin "BaseException.__getattribute__")))
    (eck_NoFields : PySem.W.findIn K (.ref C_NoFields) "__getattr__" = some none)
    (ecs_NoFields : PySem.W.subIn K (.ref C_NoFields) (.type "BaseException") = some true)
    (ecd_NoFields : PySem.W.hasDictIn K C_NoFields = true)
    (eca_NoFields : PySem.W.findIn K (.ref C_NoFields) "__class__" = some (some (.builtin "object.__class__")))
    (ecn_NoFields : PySem.W.specialIn K (.builtin "object.__class__") "__get__" = some (some (.builtin "getset_descriptor.__get__")))
    (ect_NoFields : PySem.W.takesIn K (.builtin "object.__class__") = some true)
    (ecm_NoFields : PySem.W.mroIn K C_NoFields (.type "object") = some true)
    (ecg_NoBounds : PySem.W.findIn K (.ref C_NoBounds) "__getattribute__" = some (some (.builtin "BaseException.__getattribute__")))
    (eck_NoBounds : PySem.W.findIn K (.ref C_NoBounds) "__getattr__" = some none)
    (ecs_NoBounds : PySem.W.subIn K (.ref C_NoBounds) (.type "BaseException") = some true)
    (ecd_NoBounds : PySem.W.hasDictIn K C_NoBounds = true)
    (eca_NoBounds : PySem.W.findIn K (.ref C_NoBounds) "__class__" = some (some (.builtin "object.__class__")))
    (ecn_NoBounds : PySem.W.specialIn K (.builtin "object.__class__") "__get__" = some (some (.builtin "getset_descriptor.__get__")))
    (ect_NoBounds : PySem.W.takesIn K (.builtin "object.__class__") = some true)
    (ecm_NoBounds : PySem.W.mroIn K C_NoBounds (.type "object") = some true)
    (ecg_NoOffset : PySem.W.findIn K (.ref C_NoOffset) "__getattribute__" = some (some (.builtin "BaseException.__getattribute__")))
    (eck_NoOffset : PySem.W.findIn K (.ref C_NoOffset) "__getattr__" = some none)
    (ecs_NoOffset : PySem.W.subIn K (.ref C_NoOffset) (.type "BaseException") = some true)
    (ecd_NoOffset : PySem.W.hasDictIn K C_NoOffset = true)
    (eca_NoOffset : PySem.W.findIn K (.ref C_NoOffset) "__class__" = some (some (.builtin "object.__class__")))
    (ecn_NoOffset : PySem.W.specialIn K (.builtin "object.__class__") "__get__" = some (some (.builtin "getset_descriptor.__get__")))
    (ect_NoOffset : PySem.W.takesIn K (.builtin "object.__class__") = some true)
    (ecm_NoOffset : PySem.W.mroIn K C_NoOffset (.type "object") = some true)
    (ecg_NoAddress : PySem.W.findIn K (.ref C_NoAddress) "__getattribute__" = some (some (.builtin "BaseException.__getattribute__")))
    (eck_NoAddress : PySem.W.findIn K (.ref C_NoAddress) "__getattr__" = some none)
    (ecs_NoAddress : PySem.W.subIn K (.ref C_NoAddress) (.type "BaseException") = some true)
    (ecd_NoAddress : PySem.W.hasDictIn K C_NoAddress = true)
    (eca_NoAddress : PySem.W.findIn K (.ref C_NoAddress) "__class__" = some (some (.builtin "object.__class__")))
    (ecn_NoAddress : PySem.W.specialIn K (.builtin "object.__class__") "__get__" = some (some (.builtin "getset_descriptor.__get__")))
    (ect_NoAddress : PySem.W.takesIn K (.builtin "object.__class__") = some true)
    (ecm_NoAddress : PySem.W.mroIn K C_NoAddress (.type "object") = some true)
    (ecg_NoWord : PySem.W.findIn K (.ref C_NoWord) "__getattribute__" = some (some (.builtin "BaseException.__getattribute__")))
    (eck_NoWord : PySem.W.findIn K (.ref C_NoWord) "__getattr__" = some none)
    (ecs_NoWord : PySem.W.subIn K (.ref C_NoWord) (.type "BaseException") = some true)
    (ecd_NoWord : PySem.W.hasDictIn K C_NoWord = true)
    (eca_NoWord : PySem.W.findIn K (.ref C_NoWord) "__class__" = some (some (.builtin "object.__class__")))
    (ecn_NoWord : PySem.W.specialIn K (.builtin "object.__class__") "__get__" = some (some (.builtin "getset_descriptor.__get__")))
    (ect_NoWord : PySem.W.takesIn K (.builtin "object.__class__") = some true)
    (ecm_NoWord : PySem.W.mroIn K C_NoWord (.type "object") = some true)
    (ecg_NoHands : PySem.W.findIn K (.ref C_NoHands) "__getattribute__" = some (some (.builtin "BaseException.__getattribute__")))
    (eck_NoHands : PySem.W.findIn K (.ref C_NoHands) "__getattr__" = some none)
    (ecs_NoHands : PySem.W.subIn K (.ref C_NoHands) (.type "BaseException") = some true)
    (ecd_NoHands : PySem.W.hasDictIn K C_NoHands = true)
    (eca_NoHands : PySem.W.findIn K (.ref C_NoHands) "__class__" = some (some (.builtin "object.__class__")))
    (ecn_NoHands : PySem.W.specialIn K (.builtin "object.__class__") "__get__" = some (some (.builtin "getset_descriptor.__get__")))
    (ect_NoHands : PySem.W.takesIn K (.builtin "object.__class__") = some true)
    (ecm_NoHands : PySem.W.mroIn K C_NoHands (.type "object") = some true)
    (ecg_NoRule : PySem.W.findIn K (.ref C_NoRule) "__getattribute__" = some (some (.builtin "BaseException.__getattribute__")))
    (eck_NoRule : PySem.W.findIn K (.ref C_NoRule) "__getattr__" = some none)
    (ecs_NoRule : PySem.W.subIn K (.ref C_NoRule) (.type "BaseException") = some true)
    (ecd_NoRule : PySem.W.hasDictIn K C_NoRule = true)
    (eca_NoRule : PySem.W.findIn K (.ref C_NoRule) "__class__" = some (some (.builtin "object.__class__")))
    (ecn_NoRule : PySem.W.specialIn K (.builtin "object.__class__") "__get__" = some (some (.builtin "getset_descriptor.__get__")))
    (ect_NoRule : PySem.W.takesIn K (.builtin "object.__class__") = some true)
    (ecm_NoRule : PySem.W.mroIn K C_NoRule (.type "object") = some true)
    (ecg_NoNumber : PySem.W.findIn K (.ref C_NoNumber) "__getattribute__" = some (some (.builtin "BaseException.__getattribute__")))
    (eck_NoNumber : PySem.W.findIn K (.ref C_NoNumber) "__getattr__" = some none)
    (ecs_NoNumber : PySem.W.subIn K (.ref C_NoNumber) (.type "BaseException") = some true)
    (ecd_NoNumber : PySem.W.hasDictIn K C_NoNumber = true)
    (eca_NoNumber : PySem.W.findIn K (.ref C_NoNumber) "__class__" = some (some (.builtin "object.__class__")))
    (ecn_NoNumber : PySem.W.specialIn K (.builtin "object.__class__") "__get__" = some (some (.builtin "getset_descriptor.__get__")))
    (ect_NoNumber : PySem.W.takesIn K (.builtin "object.__class__") = some true)
    (ecm_NoNumber : PySem.W.mroIn K C_NoNumber (.type "object") = some true)
    (ecg_NoLine : PySem.W.findIn K (.ref C_NoLine) "__getattribute__" = some (some (.builtin "BaseException.__getattribute__")))
    (eck_NoLine : PySem.W.findIn K (.ref C_NoLine) "__getattr__" = some none)
    (ecs_NoLine : PySem.W.subIn K (.ref C_NoLine) (.type "BaseException") = some true)
    (ecd_NoLine : PySem.W.hasDictIn K C_NoLine = true)
    (eca_NoLine : PySem.W.findIn K (.ref C_NoLine) "__class__" = some (some (.builtin "object.__class__")))
    (ecn_NoLine : PySem.W.specialIn K (.builtin "object.__class__") "__get__" = some (some (.builtin "getset_descriptor.__get__")))
    (ect_NoLine : PySem.W.takesIn K (.builtin "object.__class__") = some true)
    (ecm_NoLine : PySem.W.mroIn K C_NoLine (.type "object") = some true)
    (ecg_Sweeping : PySem.W.findIn K (.ref C_Sweeping) "__getattribute__" = some (some (.builtin "BaseException.__getattribute__")))
    (eck_Sweeping : PySem.W.findIn K (.ref C_Sweeping) "__getattr__" = some none)
    (ecs_Sweeping : PySem.W.subIn K (.ref C_Sweeping) (.type "BaseException") = some true)
    (ecd_Sweeping : PySem.W.hasDictIn K C_Sweeping = true)
    (eca_Sweeping : PySem.W.findIn K (.ref C_Sweeping) "__class__" = some (some (.builtin "object.__class__")))
    (ecn_Sweeping : PySem.W.specialIn K (.builtin "object.__class__") "__get__" = some (some (.builtin "getset_descriptor.__get__")))
    (ect_Sweeping : PySem.W.takesIn K (.builtin "object.__class__") = some true)
    (ecm_Sweeping : PySem.W.mroIn K C_Sweeping (.type "object") = some true)
    (ecg_NoSweep : PySem.W.findIn K (.ref C_NoSweep) "__getattribute__" = some (some (.builtin "BaseException.__getattribute__")))
    (eck_NoSweep : PySem.W.findIn K (.ref C_NoSweep) "__getattr__" = some none)
    (ecs_NoSweep : PySem.W.subIn K (.ref C_NoSweep) (.type "BaseException") = some true)
    (ecd_NoSweep : PySem.W.hasDictIn K C_NoSweep = true)
    (eca_NoSweep : PySem.W.findIn K (.ref C_NoSweep) "__class__" = some (some (.builtin "object.__class__")))
    (ecn_NoSweep : PySem.W.specialIn K (.builtin "object.__class__") "__get__" = some (some (.builtin "getset_descriptor.__get__")))
    (ect_NoSweep : PySem.W.takesIn K (.builtin "object.__class__") = some true)
    (ecm_NoSweep : PySem.W.mroIn K C_NoSweep (.type "object") = some true)
    (ecg_Fault : PySem.W.findIn K (.ref C_Fault) "__getattribute__" = some (some (.builtin "BaseException.__getattribute__")))
    (eck_Fault : PySem.W.findIn K (.ref C_Fault) "__getattr__" = some none)
    (ecs_Fault : PySem.W.subIn K (.ref C_Fault) (.type "BaseException") = some true)
    (ecd_Fault : PySem.W.hasDictIn K C_Fault = true)
    (eca_Fault : PySem.W.findIn K (.ref C_Fault) "__class__" = some (some (.builtin "object.__class__")))
    (ecn_Fault : PySem.W.specialIn K (.builtin "object.__class__") "__get__" = some (some (.builtin "getset_descriptor.__get__")))
    (ect_Fault : PySem.W.takesIn K (.builtin "object.__class__") = some true)
    (ecm_Fault : PySem.W.mroIn K C_Fault (.type "object") = some true)
    (ecg_NoRows : PySem.W.findIn K (.ref C_NoRows) "__getattribute__" = some (some (.builtin "BaseException.__getattribute__")))
    (eck_NoRows : PySem.W.findIn K (.ref C_NoRows) "__getattr__" = some none)
    (ecs_NoRows : PySem.W.subIn K (.ref C_NoRows) (.type "BaseException") = some true)
    (ecd_NoRows : PySem.W.hasDictIn K C_NoRows = true)
    (eca_NoRows : PySem.W.findIn K (.ref C_NoRows) "__class__" = some (some (.builtin "object.__class__")))
    (ecn_NoRows : PySem.W.specialIn K (.builtin "object.__class__") "__get__" = some (some (.builtin "getset_descriptor.__get__")))
    (ect_NoRows : PySem.W.takesIn K (.builtin "object.__class__") = some true)
    (ecm_NoRows : PySem.W.mroIn K C_NoRows (.type "object") = some true)
    (ecg_NoText : PySem.W.findIn K (.ref C_NoText) "__getattribute__" = some (some (.builtin "BaseException.__getattribute__")))
    (eck_NoText : PySem.W.findIn K (.ref C_NoText) "__getattr__" = some none)
    (ecs_NoText : PySem.W.subIn K (.ref C_NoText) (.type "BaseException") = some true)
    (ecd_NoText : PySem.W.hasDictIn K C_NoText = true)
    (eca_NoText : PySem.W.findIn K (.ref C_NoText) "__class__" = some (some (.builtin "object.__class__")))
    (ecn_NoText : PySem.W.specialIn K (.builtin "object.__class__") "__get__" = some (some (.builtin "getset_descriptor.__get__")))
    (ect_NoText : PySem.W.takesIn K (.builtin "object.__class__") = some true)
    (ecm_NoText : PySem.W.mroIn K C_NoText (.type "object") = some true)
    (ecg_NoDeeds : PySem.W.findIn K (.ref C_NoDeeds) "__getattribute__" = some (some (.builtin "BaseException.__getattribute__")))
    (eck_NoDeeds : PySem.W.findIn K (.ref C_NoDeeds) "__getattr__" = some none)
    (ecs_NoDeeds : PySem.W.subIn K (.ref C_NoDeeds) (.type "BaseException") = some true)
    (ecd_NoDeeds : PySem.W.hasDictIn K C_NoDeeds = true)
    (eca_NoDeeds : PySem.W.findIn K (.ref C_NoDeeds) "__class__" = some (some (.builtin "object.__class__")))
    (ecn_NoDeeds : PySem.W.specialIn K (.builtin "object.__class__") "__get__" = some (some (.builtin "getset_descriptor.__get__")))
    (ect_NoDeeds : PySem.W.takesIn K (.builtin "object.__class__") = some true)
    (ecm_NoDeeds : PySem.W.mroIn K C_NoDeeds (.type "object") = some true)
    (ecg_NoName : PySem.W.findIn K (.ref C_NoName) "__getattribute__" = some (some (.builtin "BaseException.__getattribute__")))
    (eck_NoName : PySem.W.findIn K (.ref C_NoName) "__getattr__" = some none)
    (ecs_NoName : PySem.W.subIn K (.ref C_NoName) (.type "BaseException") = some true)
    (ecd_NoName : PySem.W.hasDictIn K C_NoName = true)
    (eca_NoName : PySem.W.findIn K (.ref C_NoName) "__class__" = some (some (.builtin "object.__class__")))
    (ecn_NoName : PySem.W.specialIn K (.builtin "object.__class__") "__get__" = some (some (.builtin "getset_descriptor.__get__")))
    (ect_NoName : PySem.W.takesIn K (.builtin "object.__class__") = some true)
    (ecm_NoName : PySem.W.mroIn K C_NoName (.type "object") = some true)
    (ecg_TooMany : PySem.W.findIn K (.ref C_TooMany) "__getattribute__" = some (some (.builtin "BaseException.__getattribute__")))
    (eck_TooMany : PySem.W.findIn K (.ref C_TooMany) "__getattr__" = some none)
    (ecs_TooMany : PySem.W.subIn K (.ref C_TooMany) (.type "BaseException") = some true)
    (ecd_TooMany : PySem.W.hasDictIn K C_TooMany = true)
    (eca_TooMany : PySem.W.findIn K (.ref C_TooMany) "__class__" = some (some (.builtin "object.__class__")))
    (ecn_TooMany : PySem.W.specialIn K (.builtin "object.__class__") "__get__" = some (some (.builtin "getset_descriptor.__get__")))
    (ect_TooMany : PySem.W.takesIn K (.builtin "object.__class__") = some true)
    (ecm_TooMany : PySem.W.mroIn K C_TooMany (.type "object") = some true)
    (ecg_NoCompartment : PySem.W.findIn K (.ref C_NoCompartment) "__getattribute__" = some (some (.builtin "BaseException.__getattribute__")))
    (eck_NoCompartment : PySem.W.findIn K (.ref C_NoCompartment) "__getattr__" = some none)
    (ecs_NoCompartment : PySem.W.subIn K (.ref C_NoCompartment) (.type "BaseException") = some true)
    (ecd_NoCompartment : PySem.W.hasDictIn K C_NoCompartment = true)
    (eca_NoCompartment : PySem.W.findIn K (.ref C_NoCompartment) "__class__" = some (some (.builtin "object.__class__")))
    (ecn_NoCompartment : PySem.W.specialIn K (.builtin "object.__class__") "__get__" = some (some (.builtin "getset_descriptor.__get__")))
    (ect_NoCompartment : PySem.W.takesIn K (.builtin "object.__class__") = some true)
    (ecm_NoCompartment : PySem.W.mroIn K C_NoCompartment (.type "object") = some true)
    (kt_NoFields_NoFields : PySem.W.kitOne K (.ref C_NoFields) (.ref C_NoFields) = some true)
    (kt_NoFields_NoBounds : PySem.W.kitOne K (.ref C_NoFields) (.ref C_NoBounds) = some false)
    (kt_NoFields_NoOffset : PySem.W.kitOne K (.ref C_NoFields) (.ref C_NoOffset) = some false)
    (kt_NoFields_NoAddress : PySem.W.kitOne K (.ref C_NoFields) (.ref C_NoAddress) = some false)
    (kt_NoFields_NoWord : PySem.W.kitOne K (.ref C_NoFields) (.ref C_NoWord) = some false)
    (kt_NoFields_NoHands : PySem.W.kitOne K (.ref C_NoFields) (.ref C_NoHands) = some false)
    (kt_NoFields_NoRule : PySem.W.kitOne K (.ref C_NoFields) (.ref C_NoRule) = some false)
    (kt_NoFields_NoNumber : PySem.W.kitOne K (.ref C_NoFields) (.ref C_NoNumber) = some false)
    (kt_NoFields_NoLine : PySem.W.kitOne K (.ref C_NoFields) (.ref C_NoLine) = some false)
    (kt_NoFields_Sweeping : PySem.W.kitOne K (.ref C_NoFields) (.ref C_Sweeping) = some false)
    (kt_NoFields_NoSweep : PySem.W.kitOne K (.ref C_NoFields) (.ref C_NoSweep) = some false)
    (kt_NoFields_Fault : PySem.W.kitOne K (.ref C_NoFields) (.ref C_Fault) = some false)
    (kt_NoFields_NoRows : PySem.W.kitOne K (.ref C_NoFields) (.ref C_NoRows) = some false)
    (kt_NoFields_NoText : PySem.W.kitOne K (.ref C_NoFields) (.ref C_NoText) = some false)
    (kt_NoFields_NoDeeds : PySem.W.kitOne K (.ref C_NoFields) (.ref C_NoDeeds) = some false)
    (kt_NoFields_NoName : PySem.W.kitOne K (.ref C_NoFields) (.ref C_NoName) = some false)
    (kt_NoFields_TooMany : PySem.W.kitOne K (.ref C_NoFields) (.ref C_TooMany) = some false)
    (kt_NoFields_NoCompartment : PySem.W.kitOne K (.ref C_NoFields) (.ref C_NoCompartment) = some false)
    (kt_NoBounds_NoFields : PySem.W.kitOne K (.ref C_NoBounds) (.ref C_NoFields) = some false)
    (kt_NoBounds_NoBounds : PySem.W.kitOne K (.ref C_NoBounds) (.ref C_NoBounds) = some true)
    (kt_NoBounds_NoOffset : PySem.W.kitOne K (.ref C_NoBounds) (.ref C_NoOffset) = some false)
    (kt_NoBounds_NoAddress : PySem.W.kitOne K (.ref C_NoBounds) (.ref C_NoAddress) = some false)
    (kt_NoBounds_NoWord : PySem.W.kitOne K (.ref C_NoBounds) (.ref C_NoWord) = some false)
    (kt_NoBounds_NoHands : PySem.W.kitOne K (.ref C_NoBounds) (.ref C_NoHands) = some false)
    (kt_NoBounds_NoRule : PySem.W.kitOne K (.ref C_NoBounds) (.ref C_NoRule) = some false)
    (kt_NoBounds_NoNumber : PySem.W.kitOne K (.ref C_NoBounds) (.ref C_NoNumber) = some false)
    (kt_NoBounds_NoLine : PySem.W.kitOne K (.ref C_NoBounds) (.ref C_NoLine) = some false)
    (kt_NoBounds_Sweeping : PySem.W.kitOne K (.ref C_NoBounds) (.ref C_Sweeping) = some false)
    (kt_NoBounds_NoSweep : PySem.W.kitOne K (.ref C_NoBounds) (.ref C_NoSweep) = some false)
    (kt_NoBounds_Fault : PySem.W.kitOne K (.ref C_NoBounds) (.ref C_Fault) = some false)
    (kt_NoBounds_NoRows : PySem.W.kitOne K (.ref C_NoBounds) (.ref C_NoRows) = some false)
    (kt_NoBounds_NoText : PySem.W.kitOne K (.ref C_NoBounds) (.ref C_NoText) = some false)
    (kt_NoBounds_NoDeeds : PySem.W.kitOne K (.ref C_NoBounds) (.ref C_NoDeeds) = some false)
    (kt_NoBounds_NoName : PySem.W.kitOne K (.ref C_NoBounds) (.ref C_NoName) = some false)
    (kt_NoBounds_TooMany : PySem.W.kitOne K (.ref C_NoBounds) (.ref C_TooMany) = some false)
    (kt_NoBounds_NoCompartment : PySem.W.kitOne K (.ref C_NoBounds) (.ref C_NoCompartment) = some false)
    (kt_NoOffset_NoFields : PySem.W.kitOne K (.ref C_NoOffset) (.ref C_NoFields) = some false)
    (kt_NoOffset_NoBounds : PySem.W.kitOne K (.ref C_NoOffset) (.ref C_NoBounds) = some false)
    (kt_NoOffset_NoOffset : PySem.W.kitOne K (.ref C_NoOffset) (.ref C_NoOffset) = some true)
    (kt_NoOffset_NoAddress : PySem.W.kitOne K (.ref C_NoOffset) (.ref C_NoAddress) = some false)
    (kt_NoOffset_NoWord : PySem.W.kitOne K (.ref C_NoOffset) (.ref C_NoWord) = some false)
    (kt_NoOffset_NoHands : PySem.W.kitOne K (.ref C_NoOffset) (.ref C_NoHands) = some false)
    (kt_NoOffset_NoRule : PySem.W.kitOne K (.ref C_NoOffset) (.ref C_NoRule) = some false)
    (kt_NoOffset_NoNumber : PySem.W.kitOne K (.ref C_NoOffset) (.ref C_NoNumber) = some false)
    (kt_NoOffset_NoLine : PySem.W.kitOne K (.ref C_NoOffset) (.ref C_NoLine) = some false)
    (kt_NoOffset_Sweeping : PySem.W.kitOne K (.ref C_NoOffset) (.ref C_Sweeping) = some false)
    (kt_NoOffset_NoSweep : PySem.W.kitOne K (.ref C_NoOffset) (.ref C_NoSweep) = some false)
    (kt_NoOffset_Fault : PySem.W.kitOne K (.ref C_NoOffset) (.ref C_Fault) = some false)
    (kt_NoOffset_NoRows : PySem.W.kitOne K (.ref C_NoOffset) (.ref C_NoRows) = some false)
    (kt_NoOffset_NoText : PySem.W.kitOne K (.ref C_NoOffset) (.ref C_NoText) = some false)
    (kt_NoOffset_NoDeeds : PySem.W.kitOne K (.ref C_NoOffset) (.ref C_NoDeeds) = some false)
    (kt_NoOffset_NoName : PySem.W.kitOne K (.ref C_NoOffset) (.ref C_NoName) = some false)
    (kt_NoOffset_TooMany : PySem.W.kitOne K (.ref C_NoOffset) (.ref C_TooMany) = some false)
    (kt_NoOffset_NoCompartment : PySem.W.kitOne K (.ref C_NoOffset) (.ref C_NoCompartment) = some false)
    (kt_NoAddress_NoFields : PySem.W.kitOne K (.ref C_NoAddress) (.ref C_NoFields) = some false)
    (kt_NoAddress_NoBounds : PySem.W.kitOne K (.ref C_NoAddress) (.ref C_NoBounds) = some false)
    (kt_NoAddress_NoOffset : PySem.W.kitOne K (.ref C_NoAddress) (.ref C_NoOffset) = some false)
    (kt_NoAddress_NoAddress : PySem.W.kitOne K (.ref C_NoAddress) (.ref C_NoAddress) = some true)
    (kt_NoAddress_NoWord : PySem.W.kitOne K (.ref C_NoAddress) (.ref C_NoWord) = some false)
    (kt_NoAddress_NoHands : PySem.W.kitOne K (.ref C_NoAddress) (.ref C_NoHands) = some false)
    (kt_NoAddress_NoRule : PySem.W.kitOne K (.ref C_NoAddress) (.ref C_NoRule) = some false)
    (kt_NoAddress_NoNumber : PySem.W.kitOne K (.ref C_NoAddress) (.ref C_NoNumber) = some false)
    (kt_NoAddress_NoLine : PySem.W.kitOne K (.ref C_NoAddress) (.ref C_NoLine) = some false)
    (kt_NoAddress_Sweeping : PySem.W.kitOne K (.ref C_NoAddress) (.ref C_Sweeping) = some false)
    (kt_NoAddress_NoSweep : PySem.W.kitOne K (.ref C_NoAddress) (.ref C_NoSweep) = some false)
    (kt_NoAddress_Fault : PySem.W.kitOne K (.ref C_NoAddress) (.ref C_Fault) = some false)
    (kt_NoAddress_NoRows : PySem.W.kitOne K (.ref C_NoAddress) (.ref C_NoRows) = some false)
    (kt_NoAddress_NoText : PySem.W.kitOne K (.ref C_NoAddress) (.ref C_NoText) = some false)
    (kt_NoAddress_NoDeeds : PySem.W.kitOne K (.ref C_NoAddress) (.ref C_NoDeeds) = some false)
    (kt_NoAddress_NoName : PySem.W.kitOne K (.ref C_NoAddress) (.ref C_NoName) = some false)
    (kt_NoAddress_TooMany : PySem.W.kitOne K (.ref C_NoAddress) (.ref C_TooMany) = some false)
    (kt_NoAddress_NoCompartment : PySem.W.kitOne K (.ref C_NoAddress) (.ref C_NoCompartment) = some false)
    (kt_NoWord_NoFields : PySem.W.kitOne K (.ref C_NoWord) (.ref C_NoFields) = some false)
    (kt_NoWord_NoBounds : PySem.W.kitOne K (.ref C_NoWord) (.ref C_NoBounds) = some false)
    (kt_NoWord_NoOffset : PySem.W.kitOne K (.ref C_NoWord) (.ref C_NoOffset) = some false)
    (kt_NoWord_NoAddress : PySem.W.kitOne K (.ref C_NoWord) (.ref C_NoAddress) = some false)
    (kt_NoWord_NoWord : PySem.W.kitOne K (.ref C_NoWord) (.ref C_NoWord) = some true)
    (kt_NoWord_NoHands : PySem.W.kitOne K (.ref C_NoWord) (.ref C_NoHands) = some false)
    (kt_NoWord_NoRule : PySem.W.kitOne K (.ref C_NoWord) (.ref C_NoRule) = some false)
    (kt_NoWord_NoNumber : PySem.W.kitOne K (.ref C_NoWord) (.ref C_NoNumber) = some false)
    (kt_NoWord_NoLine : PySem.W.kitOne K (.ref C_NoWord) (.ref C_NoLine) = some false)
    (kt_NoWord_Sweeping : PySem.W.kitOne K (.ref C_NoWord) (.ref C_Sweeping) = some false)
    (kt_NoWord_NoSweep : PySem.W.kitOne K (.ref C_NoWord) (.ref C_NoSweep) = some false)
    (kt_NoWord_Fault : PySem.W.kitOne K (.ref C_NoWord) (.ref C_Fault) = some false)
    (kt_NoWord_NoRows : PySem.W.kitOne K (.ref C_NoWord) (.ref C_NoRows) = some false)
    (kt_NoWord_NoText : PySem.W.kitOne K (.ref C_NoWord) (.ref C_NoText) = some false)
    (kt_NoWord_NoDeeds : PySem.W.kitOne K (.ref C_NoWord) (.ref C_NoDeeds) = some false)
    (kt_NoWord_NoName : PySem.W.kitOne K (.ref C_NoWord) (.ref C_NoName) = some false)
    (kt_NoWord_TooMany : PySem.W.kitOne K (.ref C_NoWord) (.ref C_TooMany) = some false)
    (kt_NoWord_NoCompartment : PySem.W.kitOne K (.ref C_NoWord) (.ref C_NoCompartment) = some false)
    (kt_NoHands_NoFields : PySem.W.kitOne K (.ref C_NoHands) (.ref C_NoFields) = some false)
    (kt_NoHands_NoBounds : PySem.W.kitOne K (.ref C_NoHands) (.ref C_NoBounds) = some false)
    (kt_NoHands_NoOffset : PySem.W.kitOne K (.ref C_NoHands) (.ref C_NoOffset) = some false)
    (kt_NoHands_NoAddress : PySem.W.kitOne K (.ref C_NoHands) (.ref C_NoAddress) = some false)
    (kt_NoHands_NoWord : PySem.W.kitOne K (.ref C_NoHands) (.ref C_NoWord) = some false)
    (kt_NoHands_NoHands : PySem.W.kitOne K (.ref C_NoHands) (.ref C_NoHands) = some true)
    (kt_NoHands_NoRule : PySem.W.kitOne K (.ref C_NoHands) (.ref C_NoRule) = some false)
    (kt_NoHands_NoNumber : PySem.W.kitOne K (.ref C_NoHands) (.ref C_NoNumber) = some false)
    (kt_NoHands_NoLine : PySem.W.kitOne K (.ref C_NoHands) (.ref C_NoLine) = some false)
    (kt_NoHands_Sweeping : PySem.W.kitOne K (.ref C_NoHands) (.ref C_Sweeping) = some false)
    (kt_NoHands_NoSweep : PySem.W.kitOne K (.ref C_NoHands) (.ref C_NoSweep) = some false)
    (kt_NoHands_Fault : PySem.W.kitOne K (.ref C_NoHands) (.ref C_Fault) = some false)
    (kt_NoHands_NoRows : PySem.W.kitOne K (.ref C_NoHands) (.ref C_NoRows) = some false)
    (kt_NoHands_NoText : PySem.W.kitOne K (.ref C_NoHands) (.ref C_NoText) = some false)
    (kt_NoHands_NoDeeds : PySem.W.kitOne K (.ref C_NoHands) (.ref C_NoDeeds) = some false)
    (kt_NoHands_NoName : PySem.W.kitOne K (.ref C_NoHands) (.ref C_NoName) = some false)
    (kt_NoHands_TooMany : PySem.W.kitOne K (.ref C_NoHands) (.ref C_TooMany) = some false)
    (kt_NoHands_NoCompartment : PySem.W.kitOne K (.ref C_NoHands) (.ref C_NoCompartment) = some false)
    (kt_NoRule_NoFields : PySem.W.kitOne K (.ref C_NoRule) (.ref C_NoFields) = some false)
    (kt_NoRule_NoBounds : PySem.W.kitOne K (.ref C_NoRule) (.ref C_NoBounds) = some false)
    (kt_NoRule_NoOffset : PySem.W.kitOne K (.ref C_NoRule) (.ref C_NoOffset) = some false)
    (kt_NoRule_NoAddress : PySem.W.kitOne K (.ref C_NoRule) (.ref C_NoAddress) = some false)
    (kt_NoRule_NoWord : PySem.W.kitOne K (.ref C_NoRule) (.ref C_NoWord) = some false)
    (kt_NoRule_NoHands : PySem.W.kitOne K (.ref C_NoRule) (.ref C_NoHands) = some false)
    (kt_NoRule_NoRule : PySem.W.kitOne K (.ref C_NoRule) (.ref C_NoRule) = some true)
    (kt_NoRule_NoNumber : PySem.W.kitOne K (.ref C_NoRule) (.ref C_NoNumber) = some false)
    (kt_NoRule_NoLine : PySem.W.kitOne K (.ref C_NoRule) (.ref C_NoLine) = some false)
    (kt_NoRule_Sweeping : PySem.W.kitOne K (.ref C_NoRule) (.ref C_Sweeping) = some false)
    (kt_NoRule_NoSweep : PySem.W.kitOne K (.ref C_NoRule) (.ref C_NoSweep) = some false)
    (kt_NoRule_Fault : PySem.W.kitOne K (.ref C_NoRule) (.ref C_Fault) = some false)
    (kt_NoRule_NoRows : PySem.W.kitOne K (.ref C_NoRule) (.ref C_NoRows) = some false)
    (kt_NoRule_NoText : PySem.W.kitOne K (.ref C_NoRule) (.ref C_NoText) = some false)
    (kt_NoRule_NoDeeds : PySem.W.kitOne K (.ref C_NoRule) (.ref C_NoDeeds) = some false)
    (kt_NoRule_NoName : PySem.W.kitOne K (.ref C_NoRule) (.ref C_NoName) = some false)
    (kt_NoRule_TooMany : PySem.W.kitOne K (.ref C_NoRule) (.ref C_TooMany) = some false)
    (kt_NoRule_NoCompartment : PySem.W.kitOne K (.ref C_NoRule) (.ref C_NoCompartment) = some false)
    (kt_NoNumber_NoFields : PySem.W.kitOne K (.ref C_NoNumber) (.ref C_NoFields) = some false)
    (kt_NoNumber_NoBounds : PySem.W.kitOne K (.ref C_NoNumber) (.ref C_NoBounds) = some false)
    (kt_NoNumber_NoOffset : PySem.W.kitOne K (.ref C_NoNumber) (.ref C_NoOffset) = some false)
    (kt_NoNumber_NoAddress : PySem.W.kitOne K (.ref C_NoNumber) (.ref C_NoAddress) = some false)
    (kt_NoNumber_NoWord : PySem.W.kitOne K (.ref C_NoNumber) (.ref C_NoWord) = some false)
    (kt_NoNumber_NoHands : PySem.W.kitOne K (.ref C_NoNumber) (.ref C_NoHands) = some false)
    (kt_NoNumber_NoRule : PySem.W.kitOne K (.ref C_NoNumber) (.ref C_NoRule) = some false)
    (kt_NoNumber_NoNumber : PySem.W.kitOne K (.ref C_NoNumber) (.ref C_NoNumber) = some true)
    (kt_NoNumber_NoLine : PySem.W.kitOne K (.ref C_NoNumber) (.ref C_NoLine) = some false)
    (kt_NoNumber_Sweeping : PySem.W.kitOne K (.ref C_NoNumber) (.ref C_Sweeping) = some false)
    (kt_NoNumber_NoSweep : PySem.W.kitOne K (.ref C_NoNumber) (.ref C_NoSweep) = some false)
    (kt_NoNumber_Fault : PySem.W.kitOne K (.ref C_NoNumber) (.ref C_Fault) = some false)
    (kt_NoNumber_NoRows : PySem.W.kitOne K (.ref C_NoNumber) (.ref C_NoRows) = some false)
    (kt_NoNumber_NoText : PySem.W.kitOne K (.ref C_NoNumber) (.ref C_NoText) = some false)
    (kt_NoNumber_NoDeeds : PySem.W.kitOne K (.ref C_NoNumber) (.ref C_NoDeeds) = some false)
    (kt_NoNumber_NoName : PySem.W.kitOne K (.ref C_NoNumber) (.ref C_NoName) = some false)
    (kt_NoNumber_TooMany : PySem.W.kitOne K (.ref C_NoNumber) (.ref C_TooMany) = some false)
    (kt_NoNumber_NoCompartment : PySem.W.kitOne K (.ref C_NoNumber) (.ref C_NoCompartment) = some false)
    (kt_NoLine_NoFields : PySem.W.kitOne K (.ref C_NoLine) (.ref C_NoFields) = some false)
    (kt_NoLine_NoBounds : PySem.W.kitOne K (.ref C_NoLine) (.ref C_NoBounds) = some false)
    (kt_NoLine_NoOffset : PySem.W.kitOne K (.ref C_NoLine) (.ref C_NoOffset) = some false)
    (kt_NoLine_NoAddress : PySem.W.kitOne K (.ref C_NoLine) (.ref C_NoAddress) = some false)
    (kt_NoLine_NoWord : PySem.W.kitOne K (.ref C_NoLine) (.ref C_NoWord) = some false)
    (kt_NoLine_NoHands : PySem.W.kitOne K (.ref C_NoLine) (.ref C_NoHands) = some false)
    (kt_NoLine_NoRule : PySem.W.kitOne K (.ref C_NoLine) (.ref C_NoRule) = some false)
    (kt_NoLine_NoNumber : PySem.W.kitOne K (.ref C_NoLine) (.ref C_NoNumber) = some false)
    (kt_NoLine_NoLine : PySem.W.kitOne K (.ref C_NoLine) (.ref C_NoLine) = some true)
    (kt_NoLine_Sweeping : PySem.W.kitOne K (.ref C_NoLine) (.ref C_Sweeping) = some false)
    (kt_NoLine_NoSweep : PySem.W.kitOne K (.ref C_NoLine) (.ref C_NoSweep) = some false)
    (kt_NoLine_Fault : PySem.W.kitOne K (.ref C_NoLine) (.ref C_Fault) = some false)
    (kt_NoLine_NoRows : PySem.W.kitOne K (.ref C_NoLine) (.ref C_NoRows) = some false)
    (kt_NoLine_NoText : PySem.W.kitOne K (.ref C_NoLine) (.ref C_NoText) = some false)
    (kt_NoLine_NoDeeds : PySem.W.kitOne K (.ref C_NoLine) (.ref C_NoDeeds) = some false)
    (kt_NoLine_NoName : PySem.W.kitOne K (.ref C_NoLine) (.ref C_NoName) = some false)
    (kt_NoLine_TooMany : PySem.W.kitOne K (.ref C_NoLine) (.ref C_TooMany) = some false)
    (kt_NoLine_NoCompartment : PySem.W.kitOne K (.ref C_NoLine) (.ref C_NoCompartment) = some false)
    (kt_Sweeping_NoFields : PySem.W.kitOne K (.ref C_Sweeping) (.ref C_NoFields) = some false)
    (kt_Sweeping_NoBounds : PySem.W.kitOne K (.ref C_Sweeping) (.ref C_NoBounds) = some false)
    (kt_Sweeping_NoOffset : PySem.W.kitOne K (.ref C_Sweeping) (.ref C_NoOffset) = some false)
    (kt_Sweeping_NoAddress : PySem.W.kitOne K (.ref C_Sweeping) (.ref C_NoAddress) = some false)
    (kt_Sweeping_NoWord : PySem.W.kitOne K (.ref C_Sweeping) (.ref C_NoWord) = some false)
    (kt_Sweeping_NoHands : PySem.W.kitOne K (.ref C_Sweeping) (.ref C_NoHands) = some false)
    (kt_Sweeping_NoRule : PySem.W.kitOne K (.ref C_Sweeping) (.ref C_NoRule) = some false)
    (kt_Sweeping_NoNumber : PySem.W.kitOne K (.ref C_Sweeping) (.ref C_NoNumber) = some false)
    (kt_Sweeping_NoLine : PySem.W.kitOne K (.ref C_Sweeping) (.ref C_NoLine) = some false)
    (kt_Sweeping_Sweeping : PySem.W.kitOne K (.ref C_Sweeping) (.ref C_Sweeping) = some true)
    (kt_Sweeping_NoSweep : PySem.W.kitOne K (.ref C_Sweeping) (.ref C_NoSweep) = some false)
    (kt_Sweeping_Fault : PySem.W.kitOne K (.ref C_Sweeping) (.ref C_Fault) = some false)
    (kt_Sweeping_NoRows : PySem.W.kitOne K (.ref C_Sweeping) (.ref C_NoRows) = some false)
    (kt_Sweeping_NoText : PySem.W.kitOne K (.ref C_Sweeping) (.ref C_NoText) = some false)
    (kt_Sweeping_NoDeeds : PySem.W.kitOne K (.ref C_Sweeping) (.ref C_NoDeeds) = some false)
    (kt_Sweeping_NoName : PySem.W.kitOne K (.ref C_Sweeping) (.ref C_NoName) = some false)
    (kt_Sweeping_TooMany : PySem.W.kitOne K (.ref C_Sweeping) (.ref C_TooMany) = some false)
    (kt_Sweeping_NoCompartment : PySem.W.kitOne K (.ref C_Sweeping) (.ref C_NoCompartment) = some false)
    (kt_NoSweep_NoFields : PySem.W.kitOne K (.ref C_NoSweep) (.ref C_NoFields) = some false)
    (kt_NoSweep_NoBounds : PySem.W.kitOne K (.ref C_NoSweep) (.ref C_NoBounds) = some false)
    (kt_NoSweep_NoOffset : PySem.W.kitOne K (.ref C_NoSweep) (.ref C_NoOffset) = some false)
    (kt_NoSweep_NoAddress : PySem.W.kitOne K (.ref C_NoSweep) (.ref C_NoAddress) = some false)
    (kt_NoSweep_NoWord : PySem.W.kitOne K (.ref C_NoSweep) (.ref C_NoWord) = some false)
    (kt_NoSweep_NoHands : PySem.W.kitOne K (.ref C_NoSweep) (.ref C_NoHands) = some false)
    (kt_NoSweep_NoRule : PySem.W.kitOne K (.ref C_NoSweep) (.ref C_NoRule) = some false)
    (kt_NoSweep_NoNumber : PySem.W.kitOne K (.ref C_NoSweep) (.ref C_NoNumber) = some false)
    (kt_NoSweep_NoLine : PySem.W.kitOne K (.ref C_NoSweep) (.ref C_NoLine) = some false)
    (kt_NoSweep_Sweeping : PySem.W.kitOne K (.ref C_NoSweep) (.ref C_Sweeping) = some false)
    (kt_NoSweep_NoSweep : PySem.W.kitOne K (.ref C_NoSweep) (.ref C_NoSweep) = some true)
    (kt_NoSweep_Fault : PySem.W.kitOne K (.ref C_NoSweep) (.ref C_Fault) = some false)
    (kt_NoSweep_NoRows : PySem.W.kitOne K (.ref C_NoSweep) (.ref C_NoRows) = some false)
    (kt_NoSweep_NoText : PySem.W.kitOne K (.ref C_NoSweep) (.ref C_NoText) = some false)
    (kt_NoSweep_NoDeeds : PySem.W.kitOne K (.ref C_NoSweep) (.ref C_NoDeeds) = some false)
    (kt_NoSweep_NoName : PySem.W.kitOne K (.ref C_NoSweep) (.ref C_NoName) = some false)
    (kt_NoSweep_TooMany : PySem.W.kitOne K (.ref C_NoSweep) (.ref C_TooMany) = some false)
    (kt_NoSweep_NoCompartment : PySem.W.kitOne K (.ref C_NoSweep) (.ref C_NoCompartment) = some false)
    (kt_Fault_NoFields : PySem.W.kitOne K (.ref C_Fault) (.ref C_NoFields) = some false)
    (kt_Fault_NoBounds : PySem.W.kitOne K (.ref C_Fault) (.ref C_NoBounds) = some false)
    (kt_Fault_NoOffset : PySem.W.kitOne K (.ref C_Fault) (.ref C_NoOffset) = some false)
    (kt_Fault_NoAddress : PySem.W.kitOne K (.ref C_Fault) (.ref C_NoAddress) = some false)
    (kt_Fault_NoWord : PySem.W.kitOne K (.ref C_Fault) (.ref C_NoWord) = some false)
    (kt_Fault_NoHands : PySem.W.kitOne K (.ref C_Fault) (.ref C_NoHands) = some false)
    (kt_Fault_NoRule : PySem.W.kitOne K (.ref C_Fault) (.ref C_NoRule) = some false)
    (kt_Fault_NoNumber : PySem.W.kitOne K (.ref C_Fault) (.ref C_NoNumber) = some false)
    (kt_Fault_NoLine : PySem.W.kitOne K (.ref C_Fault) (.ref C_NoLine) = some false)
    (kt_Fault_Sweeping : PySem.W.kitOne K (.ref C_Fault) (.ref C_Sweeping) = some false)
    (kt_Fault_NoSweep : PySem.W.kitOne K (.ref C_Fault) (.ref C_NoSweep) = some false)
    (kt_Fault_Fault : PySem.W.kitOne K (.ref C_Fault) (.ref C_Fault) = some true)
    (kt_Fault_NoRows : PySem.W.kitOne K (.ref C_Fault) (.ref C_NoRows) = some false)
    (kt_Fault_NoText : PySem.W.kitOne K (.ref C_Fault) (.ref C_NoText) = some false)
    (kt_Fault_NoDeeds : PySem.W.kitOne K (.ref C_Fault) (.ref C_NoDeeds) = some false)
    (kt_Fault_NoName : PySem.W.kitOne K (.ref C_Fault) (.ref C_NoName) = some false)
    (kt_Fault_TooMany : PySem.W.kitOne K (.ref C_Fault) (.ref C_TooMany) = some false)
    (kt_Fault_NoCompartment : PySem.W.kitOne K (.ref C_Fault) (.ref C_NoCompartment) = some false)
    (kt_NoRows_NoFields : PySem.W.kitOne K (.ref C_NoRows) (.ref C_NoFields) = some false)
    (kt_NoRows_NoBounds : PySem.W.kitOne K (.ref C_NoRows) (.ref C_NoBounds) = some false)
    (kt_NoRows_NoOffset : PySem.W.kitOne K (.ref C_NoRows) (.ref C_NoOffset) = some false)
    (kt_NoRows_NoAddress : PySem.W.kitOne K (.ref C_NoRows) (.ref C_NoAddress) = some false)
    (kt_NoRows_NoWord : PySem.W.kitOne K (.ref C_NoRows) (.ref C_NoWord) = some false)
    (kt_NoRows_NoHands : PySem.W.kitOne K (.ref C_NoRows) (.ref C_NoHands) = some false)
    (kt_NoRows_NoRule : PySem.W.kitOne K (.ref C_NoRows) (.ref C_NoRule) = some false)
    (kt_NoRows_NoNumber : PySem.W.kitOne K (.ref C_NoRows) (.ref C_NoNumber) = some false)
    (kt_NoRows_NoLine : PySem.W.kitOne K (.ref C_NoRows) (.ref C_NoLine) = some false)
    (kt_NoRows_Sweeping : PySem.W.kitOne K (.ref C_NoRows) (.ref C_Sweeping) = some false)
    (kt_NoRows_NoSweep : PySem.W.kitOne K (.ref C_NoRows) (.ref C_NoSweep) = some false)
    (kt_NoRows_Fault : PySem.W.kitOne K (.ref C_NoRows) (.ref C_Fault) = some false)
    (kt_NoRows_NoRows : PySem.W.kitOne K (.ref C_NoRows) (.ref C_NoRows) = some true)
    (kt_NoRows_NoText : PySem.W.kitOne K (.ref C_NoRows) (.ref C_NoText) = some false)
    (kt_NoRows_NoDeeds : PySem.W.kitOne K (.ref C_NoRows) (.ref C_NoDeeds) = some false)
    (kt_NoRows_NoName : PySem.W.kitOne K (.ref C_NoRows) (.ref C_NoName) = some false)
    (kt_NoRows_TooMany : PySem.W.kitOne K (.ref C_NoRows) (.ref C_TooMany) = some false)
    (kt_NoRows_NoCompartment : PySem.W.kitOne K (.ref C_NoRows) (.ref C_NoCompartment) = some false)
    (kt_NoText_NoFields : PySem.W.kitOne K (.ref C_NoText) (.ref C_NoFields) = some false)
    (kt_NoText_NoBounds : PySem.W.kitOne K (.ref C_NoText) (.ref C_NoBounds) = some false)
    (kt_NoText_NoOffset : PySem.W.kitOne K (.ref C_NoText) (.ref C_NoOffset) = some false)
    (kt_NoText_NoAddress : PySem.W.kitOne K (.ref C_NoText) (.ref C_NoAddress) = some false)
    (kt_NoText_NoWord : PySem.W.kitOne K (.ref C_NoText) (.ref C_NoWord) = some false)
    (kt_NoText_NoHands : PySem.W.kitOne K (.ref C_NoText) (.ref C_NoHands) = some false)
    (kt_NoText_NoRule : PySem.W.kitOne K (.ref C_NoText) (.ref C_NoRule) = some false)
    (kt_NoText_NoNumber : PySem.W.kitOne K (.ref C_NoText) (.ref C_NoNumber) = some false)
    (kt_NoText_NoLine : PySem.W.kitOne K (.ref C_NoText) (.ref C_NoLine) = some false)
    (kt_NoText_Sweeping : PySem.W.kitOne K (.ref C_NoText) (.ref C_Sweeping) = some false)
    (kt_NoText_NoSweep : PySem.W.kitOne K (.ref C_NoText) (.ref C_NoSweep) = some false)
    (kt_NoText_Fault : PySem.W.kitOne K (.ref C_NoText) (.ref C_Fault) = some false)
    (kt_NoText_NoRows : PySem.W.kitOne K (.ref C_NoText) (.ref C_NoRows) = some false)
    (kt_NoText_NoText : PySem.W.kitOne K (.ref C_NoText) (.ref C_NoText) = some true)
    (kt_NoText_NoDeeds : PySem.W.kitOne K (.ref C_NoText) (.ref C_NoDeeds) = some false)
    (kt_NoText_NoName : PySem.W.kitOne K (.ref C_NoText) (.ref C_NoName) = some false)
    (kt_NoText_TooMany : PySem.W.kitOne K (.ref C_NoText) (.ref C_TooMany) = some false)
    (kt_NoText_NoCompartment : PySem.W.kitOne K (.ref C_NoText) (.ref C_NoCompartment) = some false)
    (kt_NoDeeds_NoFields : PySem.W.kitOne K (.ref C_NoDeeds) (.ref C_NoFields) = some false)
    (kt_NoDeeds_NoBounds : PySem.W.kitOne K (.ref C_NoDeeds) (.ref C_NoBounds) = some false)
    (kt_NoDeeds_NoOffset : PySem.W.kitOne K (.ref C_NoDeeds) (.ref C_NoOffset) = some false)
    (kt_NoDeeds_NoAddress : PySem.W.kitOne K (.ref C_NoDeeds) (.ref C_NoAddress) = some false)
    (kt_NoDeeds_NoWord : PySem.W.kitOne K (.ref C_NoDeeds) (.ref C_NoWord) = some false)
    (kt_NoDeeds_NoHands : PySem.W.kitOne K (.ref C_NoDeeds) (.ref C_NoHands) = some false)
    (kt_NoDeeds_NoRule : PySem.W.kitOne K (.ref C_NoDeeds) (.ref C_NoRule) = some false)
    (kt_NoDeeds_NoNumber : PySem.W.kitOne K (.ref C_NoDeeds) (.ref C_NoNumber) = some false)
    (kt_NoDeeds_NoLine : PySem.W.kitOne K (.ref C_NoDeeds) (.ref C_NoLine) = some false)
    (kt_NoDeeds_Sweeping : PySem.W.kitOne K (.ref C_NoDeeds) (.ref C_Sweeping) = some false)
    (kt_NoDeeds_NoSweep : PySem.W.kitOne K (.ref C_NoDeeds) (.ref C_NoSweep) = some false)
    (kt_NoDeeds_Fault : PySem.W.kitOne K (.ref C_NoDeeds) (.ref C_Fault) = some false)
    (kt_NoDeeds_NoRows : PySem.W.kitOne K (.ref C_NoDeeds) (.ref C_NoRows) = some false)
    (kt_NoDeeds_NoText : PySem.W.kitOne K (.ref C_NoDeeds) (.ref C_NoText) = some false)
    (kt_NoDeeds_NoDeeds : PySem.W.kitOne K (.ref C_NoDeeds) (.ref C_NoDeeds) = some true)
    (kt_NoDeeds_NoName : PySem.W.kitOne K (.ref C_NoDeeds) (.ref C_NoName) = some false)
    (kt_NoDeeds_TooMany : PySem.W.kitOne K (.ref C_NoDeeds) (.ref C_TooMany) = some false)
    (kt_NoDeeds_NoCompartment : PySem.W.kitOne K (.ref C_NoDeeds) (.ref C_NoCompartment) = some false)
    (kt_NoName_NoFields : PySem.W.kitOne K (.ref C_NoName) (.ref C_NoFields) = some false)
    (kt_NoName_NoBounds : PySem.W.kitOne K (.ref C_NoName) (.ref C_NoBounds) = some false)
    (kt_NoName_NoOffset : PySem.W.kitOne K (.ref C_NoName) (.ref C_NoOffset) = some false)
    (kt_NoName_NoAddress : PySem.W.kitOne K (.ref C_NoName) (.ref C_NoAddress) = some false)
    (kt_NoName_NoWord : PySem.W.kitOne K (.ref C_NoName) (.ref C_NoWord) = some false)
    (kt_NoName_NoHands : PySem.W.kitOne K (.ref C_NoName) (.ref C_NoHands) = some false)
    (kt_NoName_NoRule : PySem.W.kitOne K (.ref C_NoName) (.ref C_NoRule) = some false)
    (kt_NoName_NoNumber : PySem.W.kitOne K (.ref C_NoName) (.ref C_NoNumber) = some false)
    (kt_NoName_NoLine : PySem.W.kitOne K (.ref C_NoName) (.ref C_NoLine) = some false)
    (kt_NoName_Sweeping : PySem.W.kitOne K (.ref C_NoName) (.ref C_Sweeping) = some false)
    (kt_NoName_NoSweep : PySem.W.kitOne K (.ref C_NoName) (.ref C_NoSweep) = some false)
    (kt_NoName_Fault : PySem.W.kitOne K (.ref C_NoName) (.ref C_Fault) = some false)
    (kt_NoName_NoRows : PySem.W.kitOne K (.ref C_NoName) (.ref C_NoRows) = some false)
    (kt_NoName_NoText : PySem.W.kitOne K (.ref C_NoName) (.ref C_NoText) = some false)
    (kt_NoName_NoDeeds : PySem.W.kitOne K (.ref C_NoName) (.ref C_NoDeeds) = some false)
    (kt_NoName_NoName : PySem.W.kitOne K (.ref C_NoName) (.ref C_NoName) = some true)
    (kt_NoName_TooMany : PySem.W.kitOne K (.ref C_NoName) (.ref C_TooMany) = some false)
    (kt_NoName_NoCompartment : PySem.W.kitOne K (.ref C_NoName) (.ref C_NoCompartment) = some false)
    (kt_TooMany_NoFields : PySem.W.kitOne K (.ref C_TooMany) (.ref C_NoFields) = some false)
    (kt_TooMany_NoBounds : PySem.W.kitOne K (.ref C_TooMany) (.ref C_NoBounds) = some false)
    (kt_TooMany_NoOffset : PySem.W.kitOne K (.ref C_TooMany) (.ref C_NoOffset) = some false)
    (kt_TooMany_NoAddress : PySem.W.kitOne K (.ref C_TooMany) (.ref C_NoAddress) = some false)
    (kt_TooMany_NoWord : PySem.W.kitOne K (.ref C_TooMany) (.ref C_NoWord) = some false)
    (kt_TooMany_NoHands : PySem.W.kitOne K (.ref C_TooMany) (.ref C_NoHands) = some false)
    (kt_TooMany_NoRule : PySem.W.kitOne K (.ref C_TooMany) (.ref C_NoRule) = some false)
    (kt_TooMany_NoNumber : PySem.W.kitOne K (.ref C_TooMany) (.ref C_NoNumber) = some false)
    (kt_TooMany_NoLine : PySem.W.kitOne K (.ref C_TooMany) (.ref C_NoLine) = some false)
    (kt_TooMany_Sweeping : PySem.W.kitOne K (.ref C_TooMany) (.ref C_Sweeping) = some false)
    (kt_TooMany_NoSweep : PySem.W.kitOne K (.ref C_TooMany) (.ref C_NoSweep) = some false)
    (kt_TooMany_Fault : PySem.W.kitOne K (.ref C_TooMany) (.ref C_Fault) = some false)
    (kt_TooMany_NoRows : PySem.W.kitOne K (.ref C_TooMany) (.ref C_NoRows) = some false)
    (kt_TooMany_NoText : PySem.W.kitOne K (.ref C_TooMany) (.ref C_NoText) = some false)
    (kt_TooMany_NoDeeds : PySem.W.kitOne K (.ref C_TooMany) (.ref C_NoDeeds) = some false)
    (kt_TooMany_NoName : PySem.W.kitOne K (.ref C_TooMany) (.ref C_NoName) = some false)
    (kt_TooMany_TooMany : PySem.W.kitOne K (.ref C_TooMany) (.ref C_TooMany) = some true)
    (kt_TooMany_NoCompartment : PySem.W.kitOne K (.ref C_TooMany) (.ref C_NoCompartment) = some false)
    (kt_NoCompartment_NoFields : PySem.W.kitOne K (.ref C_NoCompartment) (.ref C_NoFields) = some false)
    (kt_NoCompartment_NoBounds : PySem.W.kitOne K (.ref C_NoCompartment) (.ref C_NoBounds) = some false)
    (kt_NoCompartment_NoOffset : PySem.W.kitOne K (.ref C_NoCompartment) (.ref C_NoOffset) = some false)
    (kt_NoCompartment_NoAddress : PySem.W.kitOne K (.ref C_NoCompartment) (.ref C_NoAddress) = some false)
    (kt_NoCompartment_NoWord : PySem.W.kitOne K (.ref C_NoCompartment) (.ref C_NoWord) = some false)
    (kt_NoCompartment_NoHands : PySem.W.kitOne K (.ref C_NoCompartment) (.ref C_NoHands) = some false)
    (kt_NoCompartment_NoRule : PySem.W.kitOne K (.ref C_NoCompartment) (.ref C_NoRule) = some false)
    (kt_NoCompartment_NoNumber : PySem.W.kitOne K (.ref C_NoCompartment) (.ref C_NoNumber) = some false)
    (kt_NoCompartment_NoLine : PySem.W.kitOne K (.ref C_NoCompartment) (.ref C_NoLine) = some false)
    (kt_NoCompartment_Sweeping : PySem.W.kitOne K (.ref C_NoCompartment) (.ref C_Sweeping) = some false)
    (kt_NoCompartment_NoSweep : PySem.W.kitOne K (.ref C_NoCompartment) (.ref C_NoSweep) = some false)
    (kt_NoCompartment_Fault : PySem.W.kitOne K (.ref C_NoCompartment) (.ref C_Fault) = some false)
    (kt_NoCompartment_NoRows : PySem.W.kitOne K (.ref C_NoCompartment) (.ref C_NoRows) = some false)
    (kt_NoCompartment_NoText : PySem.W.kitOne K (.ref C_NoCompartment) (.ref C_NoText) = some false)
    (kt_NoCompartment_NoDeeds : PySem.W.kitOne K (.ref C_NoCompartment) (.ref C_NoDeeds) = some false)
    (kt_NoCompartment_NoName : PySem.W.kitOne K (.ref C_NoCompartment) (.ref C_NoName) = some false)
    (kt_NoCompartment_TooMany : PySem.W.kitOne K (.ref C_NoCompartment) (.ref C_TooMany) = some false)
    (kt_NoCompartment_NoCompartment : PySem.W.kitOne K (.ref C_NoCompartment) (.ref C_NoCompartment) = some true)
    (kt_NoFields_ReachError : PySem.W.kitOne K (.ref C_NoFields) (.ref C_ReachError) = some true)
    (kt_NoFields_ValueError : PySem.W.kitOne K (.ref C_NoFields) (.type "ValueError") = some true)
    (kt_NoFields_OverflowError : PySem.W.kitOne K (.ref C_NoFields) (.type "OverflowError") = some false)
    (kt_NoFields_KeyError : PySem.W.kitOne K (.ref C_NoFields) (.type "KeyError") = some false)
    (kt_NoFields_LookupError : PySem.W.kitOne K (.ref C_NoFields) (.type "LookupError") = some false)
    (kt_NoFields_RuntimeError : PySem.W.kitOne K (.ref C_NoFields) (.type "RuntimeError") = some false)
    (kt_NoFields_IndexError : PySem.W.kitOne K (.ref C_NoFields) (.type "IndexError") = some false)
    (kt_NoBounds_ReachError : PySem.W.kitOne K (.ref C_NoBounds) (.ref C_ReachError) = some true)
    (kt_NoBounds_ValueError : PySem.W.kitOne K (.ref C_NoBounds) (.type "ValueError") = some true)
    (kt_NoBounds_OverflowError : PySem.W.kitOne K (.ref C_NoBounds) (.type "OverflowError") = some false)
    (kt_NoBounds_KeyError : PySem.W.kitOne K (.ref C_NoBounds) (.type "KeyError") = some false)
    (kt_NoBounds_LookupError : PySem.W.kitOne K (.ref C_NoBounds) (.type "LookupError") = some false)
    (kt_NoBounds_RuntimeError : PySem.W.kitOne K (.ref C_NoBounds) (.type "RuntimeError") = some false)
    (kt_NoBounds_IndexError : PySem.W.kitOne K (.ref C_NoBounds) (.type "IndexError") = some false)
    (kt_NoOffset_ReachError : PySem.W.kitOne K (.ref C_NoOffset) (.ref C_ReachError) = some true)
    (kt_NoOffset_ValueError : PySem.W.kitOne K (.ref C_NoOffset) (.type "ValueError") = some true)
    (kt_NoOffset_OverflowError : PySem.W.kitOne K (.ref C_NoOffset) (.type "OverflowError") = some false)
    (kt_NoOffset_KeyError : PySem.W.kitOne K (.ref C_NoOffset) (.type "KeyError") = some false)
    (kt_NoOffset_LookupError : PySem.W.kitOne K (.ref C_NoOffset) (.type "LookupError") = some false)
    (kt_NoOffset_RuntimeError : PySem.W.kitOne K (.ref C_NoOffset) (.type "RuntimeError") = some false)
    (kt_NoOffset_IndexError : PySem.W.kitOne K (.ref C_NoOffset) (.type "IndexError") = some false)
    (kt_NoAddress_ReachError : PySem.W.kitOne K (.ref C_NoAddress) (.ref C_ReachError) = some true)
    (kt_NoAddress_ValueError : PySem.W.kitOne K (.ref C_NoAddress) (.type "ValueError") = some true)
    (kt_NoAddress_OverflowError : PySem.W.kitOne K (.ref C_NoAddress) (.type "OverflowError") = some false)
    (kt_NoAddress_KeyError : PySem.W.kitOne K (.ref C_NoAddress) (.type "KeyError") = some false)
    (kt_NoAddress_LookupError : PySem.W.kitOne K (.ref C_NoAddress) (.type "LookupError") = some false)
    (kt_NoAddress_RuntimeError : PySem.W.kitOne K (.ref C_NoAddress) (.type "RuntimeError") = some false)
    (kt_NoAddress_IndexError : PySem.W.kitOne K (.ref C_NoAddress) (.type "IndexError") = some false)
    (kt_NoWord_ReachError : PySem.W.kitOne K (.ref C_NoWord) (.ref C_ReachError) = some true)
    (kt_NoWord_ValueError : PySem.W.kitOne K (.ref C_NoWord) (.type "ValueError") = some true)
    (kt_NoWord_OverflowError : PySem.W.kitOne K (.ref C_NoWord) (.type "OverflowError") = some false)
    (kt_NoWord_KeyError : PySem.W.kitOne K (.ref C_NoWord) (.type "KeyError") = some false)
    (kt_NoWord_LookupError : PySem.W.kitOne K (.ref C_NoWord) (.type "LookupError") = some false)
    (kt_NoWord_RuntimeError : PySem.W.kitOne K (.ref C_NoWord) (.type "RuntimeError") = some false)
    (kt_NoWord_IndexError : PySem.W.kitOne K (.ref C_NoWord) (.type "IndexError") = some false)
    (kt_NoHands_ReachError : PySem.W.kitOne K (.ref C_NoHands) (.ref C_ReachError) = some true)
    (kt_NoHands_ValueError : PySem.W.kitOne K (.ref C_NoHands) (.type "ValueError") = some true)
    (kt_NoHands_OverflowError : PySem.W.kitOne K (.ref C_NoHands) (.type "OverflowError") = some false)
    (kt_NoHands_KeyError : PySem.W.kitOne K (.ref C_NoHands) (.type "KeyError") = some false)
    (kt_NoHands_LookupError : PySem.W.kitOne K (.ref C_NoHands) (.type "LookupError") = some false)
    (kt_NoHands_RuntimeError : PySem.W.kitOne K (.ref C_NoHands) (.type "RuntimeError") = some false)
    (kt_NoHands_IndexError : PySem.W.kitOne K (.ref C_NoHands) (.type "IndexError") = some false)
    (kt_NoRule_ReachError : PySem.W.kitOne K (.ref C_NoRule) (.ref C_ReachError) = some true)
    (kt_NoRule_ValueError : PySem.W.kitOne K (.ref C_NoRule) (.type "ValueError") = some true)
    (kt_NoRule_OverflowError : PySem.W.kitOne K (.ref C_NoRule) (.type "OverflowError") = some false)
    (kt_NoRule_KeyError : PySem.W.kitOne K (.ref C_NoRule) (.type "KeyError") = some false)
    (kt_NoRule_LookupError : PySem.W.kitOne K (.ref C_NoRule) (.type "LookupError") = some false)
    (kt_NoRule_RuntimeError : PySem.W.kitOne K (.ref C_NoRule) (.type "RuntimeError") = some false)
    (kt_NoRule_IndexError : PySem.W.kitOne K (.ref C_NoRule) (.type "IndexError") = some false)
    (kt_NoNumber_ReachError : PySem.W.kitOne K (.ref C_NoNumber) (.ref C_ReachError) = some true)
    (kt_NoNumber_ValueError : PySem.W.kitOne K (.ref C_NoNumber) (.type "ValueError") = some true)
    (kt_NoNumber_OverflowError : PySem.W.kitOne K (.ref C_NoNumber) (.type "OverflowError") = some false)
    (kt_NoNumber_KeyError : PySem.W.kitOne K (.ref C_NoNumber) (.type "KeyError") = some false)
    (kt_NoNumber_LookupError : PySem.W.kitOne K (.ref C_NoNumber) (.type "LookupError") = some false)
    (kt_NoNumber_RuntimeError : PySem.W.kitOne K (.ref C_NoNumber) (.type "RuntimeError") = some false)
    (kt_NoNumber_IndexError : PySem.W.kitOne K (.ref C_NoNumber) (.type "IndexError") = some false)
    (kt_NoLine_ReachError : PySem.W.kitOne K (.ref C_NoLine) (.ref C_ReachError) = some true)
    (kt_NoLine_ValueError : PySem.W.kitOne K (.ref C_NoLine) (.type "ValueError") = some true)
    (kt_NoLine_OverflowError : PySem.W.kitOne K (.ref C_NoLine) (.type "OverflowError") = some false)
    (kt_NoLine_KeyError : PySem.W.kitOne K (.ref C_NoLine) (.type "KeyError") = some false)
    (kt_NoLine_LookupError : PySem.W.kitOne K (.ref C_NoLine) (.type "LookupError") = some false)
    (kt_NoLine_RuntimeError : PySem.W.kitOne K (.ref C_NoLine) (.type "RuntimeError") = some false)
    (kt_NoLine_IndexError : PySem.W.kitOne K (.ref C_NoLine) (.type "IndexError") = some false)
    (kt_Sweeping_ReachError : PySem.W.kitOne K (.ref C_Sweeping) (.ref C_ReachError) = some false)
    (kt_Sweeping_ValueError : PySem.W.kitOne K (.ref C_Sweeping) (.type "ValueError") = some false)
    (kt_Sweeping_OverflowError : PySem.W.kitOne K (.ref C_Sweeping) (.type "OverflowError") = some false)
    (kt_Sweeping_KeyError : PySem.W.kitOne K (.ref C_Sweeping) (.type "KeyError") = some false)
    (kt_Sweeping_LookupError : PySem.W.kitOne K (.ref C_Sweeping) (.type "LookupError") = some false)
    (kt_Sweeping_RuntimeError : PySem.W.kitOne K (.ref C_Sweeping) (.type "RuntimeError") = some true)
    (kt_Sweeping_IndexError : PySem.W.kitOne K (.ref C_Sweeping) (.type "IndexError") = some false)
    (kt_NoSweep_ReachError : PySem.W.kitOne K (.ref C_NoSweep) (.ref C_ReachError) = some false)
    (kt_NoSweep_ValueError : PySem.W.kitOne K (.ref C_NoSweep) (.type "ValueError") = some false)
    (kt_NoSweep_OverflowError : PySem.W.kitOne K (.ref C_NoSweep) (.type "OverflowError") = some false)
    (kt_NoSweep_KeyError : PySem.W.kitOne K (.ref C_NoSweep) (.type "KeyError") = some false)
    (kt_NoSweep_LookupError : PySem.W.kitOne K (.ref C_NoSweep) (.type "LookupError") = some true)
    (kt_NoSweep_RuntimeError : PySem.W.kitOne K (.ref C_NoSweep) (.type "RuntimeError") = some false)
    (kt_NoSweep_IndexError : PySem.W.kitOne K (.ref C_NoSweep) (.type "IndexError") = some false)
    (kt_Fault_ReachError : PySem.W.kitOne K (.ref C_Fault) (.ref C_ReachError) = some true)
    (kt_Fault_ValueError : PySem.W.kitOne K (.ref C_Fault) (.type "ValueError") = some true)
    (kt_Fault_OverflowError : PySem.W.kitOne K (.ref C_Fault) (.type "OverflowError") = some false)
    (kt_Fault_KeyError : PySem.W.kitOne K (.ref C_Fault) (.type "KeyError") = some false)
    (kt_Fault_LookupError : PySem.W.kitOne K (.ref C_Fault) (.type "LookupError") = some false)
    (kt_Fault_RuntimeError : PySem.W.kitOne K (.ref C_Fault) (.type "RuntimeError") = some false)
    (kt_Fault_IndexError : PySem.W.kitOne K (.ref C_Fault) (.type "IndexError") = some false)
    (kt_NoRows_ReachError : PySem.W.kitOne K (.ref C_NoRows) (.ref C_ReachError) = some true)
    (kt_NoRows_ValueError : PySem.W.kitOne K (.ref C_NoRows) (.type "ValueError") = some true)
    (kt_NoRows_OverflowError : PySem.W.kitOne K (.ref C_NoRows) (.type "OverflowError") = some false)
    (kt_NoRows_KeyError : PySem.W.kitOne K (.ref C_NoRows) (.type "KeyError") = some false)
    (kt_NoRows_LookupError : PySem.W.kitOne K (.ref C_NoRows) (.type "LookupError") = some false)
    (kt_NoRows_RuntimeError : PySem.W.kitOne K (.ref C_NoRows) (.type "RuntimeError") = some false)
    (kt_NoRows_IndexError : PySem.W.kitOne K (.ref C_NoRows) (.type "IndexError") = some false)
    (kt_NoText_ReachError : PySem.W.kitOne K (.ref C_NoText) (.ref C_ReachError) = some true)
    (kt_NoText_ValueError : PySem.W.kitOne K (.ref C_NoText) (.type "ValueError") = some true)
    (kt_NoText_OverflowError : PySem.W.kitOne K (.ref C_NoText) (.type "OverflowError") = some false)
    (kt_NoText_KeyError : PySem.W.kitOne K (.ref C_NoText) (.type "KeyError") = some false)
    (kt_NoText_LookupError : PySem.W.kitOne K (.ref C_NoText) (.type "LookupError") = some false)
    (kt_NoText_RuntimeError : PySem.W.kitOne K (.ref C_NoText) (.type "RuntimeError") = some false)
    (kt_NoText_IndexError : PySem.W.kitOne K (.ref C_NoText) (.type "IndexError") = some false)
    (kt_NoDeeds_ReachError : PySem.W.kitOne K (.ref C_NoDeeds) (.ref C_ReachError) = some true)
    (kt_NoDeeds_ValueError : PySem.W.kitOne K (.ref C_NoDeeds) (.type "ValueError") = some true)
    (kt_NoDeeds_OverflowError : PySem.W.kitOne K (.ref C_NoDeeds) (.type "OverflowError") = some false)
    (kt_NoDeeds_KeyError : PySem.W.kitOne K (.ref C_NoDeeds) (.type "KeyError") = some false)
    (kt_NoDeeds_LookupError : PySem.W.kitOne K (.ref C_NoDeeds) (.type "LookupError") = some false)
    (kt_NoDeeds_RuntimeError : PySem.W.kitOne K (.ref C_NoDeeds) (.type "RuntimeError") = some false)
    (kt_NoDeeds_IndexError : PySem.W.kitOne K (.ref C_NoDeeds) (.type "IndexError") = some false)
    (kt_NoName_ReachError : PySem.W.kitOne K (.ref C_NoName) (.ref C_ReachError) = some false)
    (kt_NoName_ValueError : PySem.W.kitOne K (.ref C_NoName) (.type "ValueError") = some false)
    (kt_NoName_OverflowError : PySem.W.kitOne K (.ref C_NoName) (.type "OverflowError") = some false)
    (kt_NoName_KeyError : PySem.W.kitOne K (.ref C_NoName) (.type "KeyError") = some true)
    (kt_NoName_LookupError : PySem.W.kitOne K (.ref C_NoName) (.type "LookupError") = some true)
    (kt_NoName_RuntimeError : PySem.W.kitOne K (.ref C_NoName) (.type "RuntimeError") = some false)
    (kt_NoName_IndexError : PySem.W.kitOne K (.ref C_NoName) (.type "IndexError") = some false)
    (kt_TooMany_ReachError : PySem.W.kitOne K (.ref C_TooMany) (.ref C_ReachError) = some false)
    (kt_TooMany_ValueError : PySem.W.kitOne K (.ref C_TooMany) (.type "ValueError") = some false)
    (kt_TooMany_OverflowError : PySem.W.kitOne K (.ref C_TooMany) (.type "OverflowError") = some true)
    (kt_TooMany_KeyError : PySem.W.kitOne K (.ref C_TooMany) (.type "KeyError") = some false)
    (kt_TooMany_LookupError : PySem.W.kitOne K (.ref C_TooMany) (.type "LookupError") = some false)
    (kt_TooMany_RuntimeError : PySem.W.kitOne K (.ref C_TooMany) (.type "RuntimeError") = some false)
    (kt_TooMany_IndexError : PySem.W.kitOne K (.ref C_TooMany) (.type "IndexError") = some false)
    (kt_NoCompartment_ReachError : PySem.W.kitOne K (.ref C_NoCompartment) (.ref C_ReachError) = some true)
    (kt_NoCompartment_ValueError : PySem.W.kitOne K (.ref C_NoCompartment) (.type "ValueError") = some true)
    (kt_NoCompartment_OverflowError : PySem.W.kitOne K (.ref C_NoCompartment) (.type "OverflowError") = some false)
    (kt_NoCompartment_KeyError : PySem.W.kitOne K (.ref C_NoCompartment) (.type "KeyError") = some false)
    (kt_NoCompartment_LookupError : PySem.W.kitOne K (.ref C_NoCompartment) (.type "LookupError") = some false)
    (kt_NoCompartment_RuntimeError : PySem.W.kitOne K (.ref C_NoCompartment) (.type "RuntimeError") = some false)
    (kt_NoCompartment_IndexError : PySem.W.kitOne K (.ref C_NoCompartment) (.type "IndexError") = some false)
    (ef_Fault_word : PySem.W.findIn K (.ref C_Fault) "word" = some none)
    (ef_NoRows_number : PySem.W.findIn K (.ref C_NoRows) "number" = some none)
    (ef_NoText_number : PySem.W.findIn K (.ref C_NoText) "number" = some none)
    (ef_NoDeeds_number : PySem.W.findIn K (.ref C_NoDeeds) "number" = some none)
    (ef_NoName_name : PySem.W.findIn K (.ref C_NoName) "name" = some none)
    (ef_TooMany_size : PySem.W.findIn K (.ref C_TooMany) "size" = some none)
    (ef_NoCompartment_number : PySem.W.findIn K (.ref C_NoCompartment) "number" = some none)
    (ef_NoCompartment_part : PySem.W.findIn K (.ref C_NoCompartment) "part" = some none)
    : ∀ (base : Heap) (H : Hp) (s : Shared) (a : Addr) (ns : List Int), K.In base → base.Ns mainGlobals mg → Env0 l.prog w K mg base callerA [] s H → SqL K H a (ns.map V.int) → ns.length ≤ 63 → SysAt K H → codeAny (model l.prog w) callerA (.call (.ref fa) ⟨[.ref a], []⟩) (CR CX0 [] l.prog w H s (fun v _ => v = .bl true) fun _ _ _ => False) s := by
  have e := hfa.symm.trans (PySem.W.mg_of X G a7)
  cases e
  have F0 := fun_mk (st := s__law_take) l0 c0 k0
  have F1 := fun_mk (st := s__law_pool) l1 c1 k1
  have F2 := fun_mk (st := s__law_kinds) l2 c2 k2
  have F3 := fun_mk (st := s__law_bases) l3 c3 k3
  have F4 := fun_mk (st := s__law_made) l4 c4 k4
  have F5 := fun_mk (st := s__law_values) l5 c5 k5
  have F6 := fun_mk (st := s__law_due_bases) l6 c6 k6
  have F7 := fun_mk (st := s_law) l7 c7 k7
  have T : Txt K w mg := ⟨PySem.W.mg_none_of X G z_IndexError, PySem.W.mg_none_of X G z_KeyError, PySem.W.mg_none_of X G z_LookupError, PySem.W.mg_none_of X G z_OverflowError, PySem.W.mg_none_of X G z_RuntimeError, PySem.W.mg_none_of X G z_ValueError, PySem.W.mg_none_of X G z_abs, PySem.W.mg_none_of X G z_enumerate, PySem.W.mg_none_of X G z_int, PySem.W.mg_none_of X G z_isinstance, PySem.W.mg_none_of X G z_len, PySem.W.mg_none_of X G z_max, PySem.W.mg_none_of X G z_min, PySem.W.mg_none_of X G z_range, PySem.W.mg_none_of X G z_repr, PySem.W.mg_none_of X G z_sum, ⟨C_Fault, PySem.W.mg_of X G ac_Fault, ac_Fault⟩, ⟨C_NoAddress, PySem.W.mg_of X G ac_NoAddress, ac_NoAddress⟩, ⟨C_NoBounds, PySem.W.mg_of X G ac_NoBounds, ac_NoBounds⟩, ⟨C_NoCompartment, PySem.W.mg_of X G ac_NoCompartment, ac_NoCompartment⟩, ⟨C_NoDeeds, PySem.W.mg_of X G ac_NoDeeds, ac_NoDeeds⟩, ⟨C_NoFields, PySem.W.mg_of X G ac_NoFields, ac_NoFields⟩, ⟨C_NoHands, PySem.W.mg_of X G ac_NoHands, ac_NoHands⟩, ⟨C_NoLine, PySem.W.mg_of X G ac_NoLine, ac_NoLine⟩, ⟨C_NoName, PySem.W.mg_of X G ac_NoName, ac_NoName⟩, ⟨C_NoNumber, PySem.W.mg_of X G ac_NoNumber, ac_NoNumber⟩, ⟨C_NoOffset, PySem.W.mg_of X G ac_NoOffset, ac_NoOffset⟩, ⟨C_NoRows, PySem.W.mg_of X G ac_NoRows, ac_NoRows⟩, ⟨C_NoRule, PySem.W.mg_of X G ac_NoRule, ac_NoRule⟩, ⟨C_NoSweep, PySem.W.mg_of X G ac_NoSweep, ac_NoSweep⟩, ⟨C_NoText, PySem.W.mg_of X G ac_NoText, ac_NoText⟩, ⟨C_NoWord, PySem.W.mg_of X G ac_NoWord, ac_NoWord⟩, ⟨C_ReachError, PySem.W.mg_of X G ac_ReachError, ac_ReachError⟩, ⟨C_Sweeping, PySem.W.mg_of X G ac_Sweeping, ac_Sweeping⟩, ⟨C_TooMany, PySem.W.mg_of X G ac_TooMany, ac_TooMany⟩, fun C h1 => by cases ns_one ac_NoFields h1; exact ⟨ecg_NoFields, eck_NoFields, ecs_NoFields, ecd_NoFields, eca_NoFields, ecn_NoFields, ect_NoFields, ecm_NoFields⟩, fun C h1 => by cases ns_one ac_NoBounds h1; exact ⟨ecg_NoBounds, eck_NoBounds, ecs_NoBounds, ecd_NoBounds, eca_NoBounds, ecn_NoBounds, ect_NoBounds, ecm_NoBounds⟩, fun C h1 => by cases ns_one ac_NoOffset h1; exact ⟨ecg_NoOffset, eck_NoOffset, ecs_NoOffset, ecd_NoOffset, eca_NoOffset, ecn_NoOffset, ect_NoOffset, ecm_NoOffset⟩, fun C h1 => by cases ns_one ac_NoAddress h1; exact ⟨ecg_NoAddress, eck_NoAddress, ecs_NoAddress, ecd_NoAddress, eca_NoAddress, ecn_NoAddress, ect_NoAddress, ecm_NoAddress⟩, fun C h1 => by cases ns_one ac_NoWord h1; exact ⟨ecg_NoWord, eck_NoWord, ecs_NoWord, ecd_NoWord, eca_NoWord, ecn_NoWord, ect_NoWord, ecm_NoWord⟩, fun C h1 => by cases ns_one ac_NoHands h1; exact ⟨ecg_NoHands, eck_NoHands, ecs_NoHands, ecd_NoHands, eca_NoHands, ecn_NoHands, ect_NoHands, ecm_NoHands⟩, fun C h1 => by cases ns_one ac_NoRule h1; exact ⟨ecg_NoRule, eck_NoRule, ecs_NoRule, ecd_NoRule, eca_NoRule, ecn_NoRule, ect_NoRule, ecm_NoRule⟩, fun C h1 => by cases ns_one ac_NoNumber h1; exact ⟨ecg_NoNumber, eck_NoNumber, ecs_NoNumber, ecd_NoNumber, eca_NoNumber, ecn_NoNumber, ect_NoNumber, ecm_NoNumber⟩, fun C h1 => by cases ns_one ac_NoLine h1; exact ⟨ecg_NoLine, eck_NoLine, ecs_NoLine, ecd_NoLine, eca_NoLine, ecn_NoLine, ect_NoLine, ecm_NoLine⟩, fun C h1 => by cases ns_one ac_Sweeping h1; exact ⟨ecg_Sweeping, eck_Sweeping, ecs_Sweeping, ecd_Sweeping, eca_Sweeping, ecn_Sweeping, ect_Sweeping, ecm_Sweeping⟩, fun C h1 => by cases ns_one ac_NoSweep h1; exact ⟨ecg_NoSweep, eck_NoSweep, ecs_NoSweep, ecd_NoSweep, eca_NoSweep, ecn_NoSweep, ect_NoSweep, ecm_NoSweep⟩, fun C h1 => by cases ns_one ac_Fault h1; exact ⟨ecg_Fault, eck_Fault, ecs_Fault, ecd_Fault, eca_Fault, ecn_Fault, ect_Fault, ecm_Fault⟩, fun C h1 => by cases ns_one ac_NoRows h1; exact ⟨ecg_NoRows, eck_NoRows, ecs_NoRows, ecd_NoRows, eca_NoRows, ecn_NoRows, ect_NoRows, ecm_NoRows⟩, fun C h1 => by cases ns_one ac_NoText h1; exact ⟨ecg_NoText, eck_NoText, ecs_NoText, ecd_NoText, eca_NoText, ecn_NoText, ect_NoText, ecm_NoText⟩, fun C h1 => by cases ns_one ac_NoDeeds h1; exact ⟨ecg_NoDeeds, eck_NoDeeds, ecs_NoDeeds, ecd_NoDeeds, eca_NoDeeds, ecn_NoDeeds, ect_NoDeeds, ecm_NoDeeds⟩, fun C h1 => by cases ns_one ac_NoName h1; exact ⟨ecg_NoName, eck_NoName, ecs_NoName, ecd_NoName, eca_NoName, ecn_NoName, ect_NoName, ecm_NoName⟩, fun C h1 => by cases ns_one ac_TooMany h1; exact ⟨ecg_TooMany, eck_TooMany, ecs_TooMany, ecd_TooMany, eca_TooMany, ecn_TooMany, ect_TooMany, ecm_TooMany⟩, fun C h1 => by cases ns_one ac_NoCompartment h1; exact ⟨ecg_NoCompartment, eck_NoCompartment, ecs_NoCompartment, ecd_NoCompartment, eca_NoCompartment, ecn_NoCompartment, ect_NoCompartment, ecm_NoCompartment⟩, fun C D h1 h2 => by cases ns_one ac_NoFields h1; cases ns_one ac_NoFields h2; exact kt_NoFields_NoFields, fun C D h1 h2 => by cases ns_one ac_NoFields h1; cases ns_one ac_NoBounds h2; exact kt_NoFields_NoBounds, fun C D h1 h2 => by cases ns_one ac_NoFields h1; cases ns_one ac_NoOffset h2; exact kt_NoFields_NoOffset, fun C D h1 h2 => by cases ns_one ac_NoFields h1; cases ns_one ac_NoAddress h2; exact kt_NoFields_NoAddress, fun C D h1 h2 => by cases ns_one ac_NoFields h1; cases ns_one ac_NoWord h2; exact kt_NoFields_NoWord, fun C D h1 h2 => by cases ns_one ac_NoFields h1; cases ns_one ac_NoHands h2; exact kt_NoFields_NoHands, fun C D h1 h2 => by cases ns_one ac_NoFields h1; cases ns_one ac_NoRule h2; exact kt_NoFields_NoRule, fun C D h1 h2 => by cases ns_one ac_NoFields h1; cases ns_one ac_NoNumber h2; exact kt_NoFields_NoNumber, fun C D h1 h2 => by cases ns_one ac_NoFields h1; cases ns_one ac_NoLine h2; exact kt_NoFields_NoLine, fun C D h1 h2 => by cases ns_one ac_NoFields h1; cases ns_one ac_Sweeping h2; exact kt_NoFields_Sweeping, fun C D h1 h2 => by cases ns_one ac_NoFields h1; cases ns_one ac_NoSweep h2; exact kt_NoFields_NoSweep, fun C D h1 h2 => by cases ns_one ac_NoFields h1; cases ns_one ac_Fault h2; exact kt_NoFields_Fault, fun C D h1 h2 => by cases ns_one ac_NoFields h1; cases ns_one ac_NoRows h2; exact kt_NoFields_NoRows, fun C D h1 h2 => by cases ns_one ac_NoFields h1; cases ns_one ac_NoText h2; exact kt_NoFields_NoText, fun C D h1 h2 => by cases ns_one ac_NoFields h1; cases ns_one ac_NoDeeds h2; exact kt_NoFields_NoDeeds, fun C D h1 h2 => by cases ns_one ac_NoFields h1; cases ns_one ac_NoName h2; exact kt_NoFields_NoName, fun C D h1 h2 => by cases ns_one ac_NoFields h1; cases ns_one ac_TooMany h2; exact kt_NoFields_TooMany, fun C D h1 h2 => by cases ns_one ac_NoFields h1; cases ns_one ac_NoCompartment h2; exact kt_NoFields_NoCompartment, fun C D h1 h2 => by cases ns_one ac_NoBounds h1; cases ns_one ac_NoFields h2; exact kt_NoBounds_NoFields, fun C D h1 h2 => by cases ns_one ac_NoBounds h1; cases ns_one ac_NoBounds h2; exact kt_NoBounds_NoBounds, fun C D h1 h2 => by cases ns_one ac_NoBounds h1; cases ns_one ac_NoOffset h2; exact kt_NoBounds_NoOffset, fun C D h1 h2 => by cases ns_one ac_NoBounds h1; cases ns_one ac_NoAddress h2; exact kt_NoBounds_NoAddress, fun C D h1 h2 => by cases ns_one ac_NoBounds h1; cases ns_one ac_NoWord h2; exact kt_NoBounds_NoWord, fun C D h1 h2 => by cases ns_one ac_NoBounds h1; cases ns_one ac_NoHands h2; exact kt_NoBounds_NoHands, fun C D h1 h2 => by cases ns_one ac_NoBounds h1; cases ns_one ac_NoRule h2; exact kt_NoBounds_NoRule, fun C D h1 h2 => by cases ns_one ac_NoBounds h1; cases ns_one ac_NoNumber h2; exact kt_NoBounds_NoNumber, fun C D h1 h2 => by cases ns_one ac_NoBounds h1; cases ns_one ac_NoLine h2; exact kt_NoBounds_NoLine, fun C D h1 h2 => by cases ns_one ac_NoBounds h1; cases ns_one ac_Sweeping h2; exact kt_NoBounds_Sweeping, fun C D h1 h2 => by cases ns_one ac_NoBounds h1; cases ns_one ac_NoSweep h2; exact kt_NoBounds_NoSweep, fun C D h1 h2 => by cases ns_one ac_NoBounds h1; cases ns_one ac_Fault h2; exact kt_NoBounds_Fault, fun C D h1 h2 => by cases ns_one ac_NoBounds h1; cases ns_one ac_NoRows h2; exact kt_NoBounds_NoRows, fun C D h1 h2 => by cases ns_one ac_NoBounds h1; cases ns_one ac_NoText h2; exact kt_NoBounds_NoText, fun C D h1 h2 => by cases ns_one ac_NoBounds h1; cases ns_one ac_NoDeeds h2; exact kt_NoBounds_NoDeeds, fun C D h1 h2 => by cases ns_one ac_NoBounds h1; cases ns_one ac_NoName h2; exact kt_NoBounds_NoName, fun C D h1 h2 => by cases ns_one ac_NoBounds h1; cases ns_one ac_TooMany h2; exact kt_NoBounds_TooMany, fun C D h1 h2 => by cases ns_one ac_NoBounds h1; cases ns_one ac_NoCompartment h2; exact kt_NoBounds_NoCompartment, fun C D h1 h2 => by cases ns_one ac_NoOffset h1; cases ns_one ac_NoFields h2; exact kt_NoOffset_NoFields, fun C D h1 h2 => by cases ns_one ac_NoOffset h1; cases ns_one ac_NoBounds h2; exact kt_NoOffset_NoBounds, fun C D h1 h2 => by cases ns_one ac_NoOffset h1; cases ns_one ac_NoOffset h2; exact kt_NoOffset_NoOffset, fun C D h1 h2 => by cases ns_one ac_NoOffset h1; cases ns_one ac_NoAddress h2; exact kt_NoOffset_NoAddress, fun C D h1 h2 => by cases ns_one ac_NoOffset h1; cases ns_one ac_NoWord h2; exact kt_NoOffset_NoWord, fun C D h1 h2 => by cases ns_one ac_NoOffset h1; cases ns_one ac_NoHands h2; exact kt_NoOffset_NoHands, fun C D h1 h2 => by cases ns_one ac_NoOffset h1; cases ns_one ac_NoRule h2; exact kt_NoOffset_NoRule, fun C D h1 h2 => by cases ns_one ac_NoOffset h1; cases ns_one ac_NoNumber h2; exact kt_NoOffset_NoNumber, fun C D h1 h2 => by cases ns_one ac_NoOffset h1; cases ns_one ac_NoLine h2; exact kt_NoOffset_NoLine, fun C D h1 h2 => by cases ns_one ac_NoOffset h1; cases ns_one ac_Sweeping h2; exact kt_NoOffset_Sweeping, fun C D h1 h2 => by cases ns_one ac_NoOffset h1; cases ns_one ac_NoSweep h2; exact kt_NoOffset_NoSweep, fun C D h1 h2 => by cases ns_one ac_NoOffset h1; cases ns_one ac_Fault h2; exact kt_NoOffset_Fault, fun C D h1 h2 => by cases ns_one ac_NoOffset h1; cases ns_one ac_NoRows h2; exact kt_NoOffset_NoRows, fun C D h1 h2 => by cases ns_one ac_NoOffset h1; cases ns_one ac_NoText h2; exact kt_NoOffset_NoText, fun C D h1 h2 => by cases ns_one ac_NoOffset h1; cases ns_one ac_NoDeeds h2; exact kt_NoOffset_NoDeeds, fun C D h1 h2 => by cases ns_one ac_NoOffset h1; cases ns_one ac_NoName h2; exact kt_NoOffset_NoName, fun C D h1 h2 => by cases ns_one ac_NoOffset h1; cases ns_one ac_TooMany h2; exact kt_NoOffset_TooMany, fun C D h1 h2 => by cases ns_one ac_NoOffset h1; cases ns_one ac_NoCompartment h2; exact kt_NoOffset_NoCompartment, fun C D h1 h2 => by cases ns_one ac_NoAddress h1; cases ns_one ac_NoFields h2; exact kt_NoAddress_NoFields, fun C D h1 h2 => by cases ns_one ac_NoAddress h1; cases ns_one ac_NoBounds h2; exact kt_NoAddress_NoBounds, fun C D h1 h2 => by cases ns_one ac_NoAddress h1; cases ns_one ac_NoOffset h2; exact kt_NoAddress_NoOffset, fun C D h1 h2 => by cases ns_one ac_NoAddress h1; cases ns_one ac_NoAddress h2; exact kt_NoAddress_NoAddress, fun C D h1 h2 => by cases ns_one ac_NoAddress h1; cases ns_one ac_NoWord h2; exact kt_NoAddress_NoWord, fun C D h1 h2 => by cases ns_one ac_NoAddress h1; cases ns_one ac_NoHands h2; exact kt_NoAddress_NoHands, fun C D h1 h2 => by cases ns_one ac_NoAddress h1; cases ns_one ac_NoRule h2; exact kt_NoAddress_NoRule, fun C D h1 h2 => by cases ns_one ac_NoAddress h1; cases ns_one ac_NoNumber h2; exact kt_NoAddress_NoNumber, fun C D h1 h2 => by cases ns_one ac_NoAddress h1; cases ns_one ac_NoLine h2; exact kt_NoAddress_NoLine, fun C D h1 h2 => by cases ns_one ac_NoAddress h1; cases ns_one ac_Sweeping h2; exact kt_NoAddress_Sweeping, fun C D h1 h2 => by cases ns_one ac_NoAddress h1; cases ns_one ac_NoSweep h2; exact kt_NoAddress_NoSweep, fun C D h1 h2 => by cases ns_one ac_NoAddress h1; cases ns_one ac_Fault h2; exact kt_NoAddress_Fault, fun C D h1 h2 => by cases ns_one ac_NoAddress h1; cases ns_one ac_NoRows h2; exact kt_NoAddress_NoRows, fun C D h1 h2 => by cases ns_one ac_NoAddress h1; cases ns_one ac_NoText h2; exact kt_NoAddress_NoText, fun C D h1 h2 => by cases ns_one ac_NoAddress h1; cases ns_one ac_NoDeeds h2; exact kt_NoAddress_NoDeeds, fun C D h1 h2 => by cases ns_one ac_NoAddress h1; cases ns_one ac_NoName h2; exact kt_NoAddress_NoName, fun C D h1 h2 => by cases ns_one ac_NoAddress h1; cases ns_one ac_TooMany h2; exact kt_NoAddress_TooMany, fun C D h1 h2 => by cases ns_one ac_NoAddress h1; cases ns_one ac_NoCompartment h2; exact kt_NoAddress_NoCompartment, fun C D h1 h2 => by cases ns_one ac_NoWord h1; cases ns_one ac_NoFields h2; exact kt_NoWord_NoFields, fun C D h1 h2 => by cases ns_one ac_NoWord h1; cases ns_one ac_NoBounds h2; exact kt_NoWord_NoBounds, fun C D h1 h2 => by cases ns_one ac_NoWord h1; cases ns_one ac_NoOffset h2; exact kt_NoWord_NoOffset, fun C D h1 h2 => by cases ns_one ac_NoWord h1; cases ns_one ac_NoAddress h2; exact kt_NoWord_NoAddress, fun C D h1 h2 => by cases ns_one ac_NoWord h1; cases ns_one ac_NoWord h2; exact kt_NoWord_NoWord, fun C D h1 h2 => by cases ns_one ac_NoWord h1; cases ns_one ac_NoHands h2; exact kt_NoWord_NoHands, fun C D h1 h2 => by cases ns_one ac_NoWord h1; cases ns_one ac_NoRule h2; exact kt_NoWord_NoRule, fun C D h1 h2 => by cases ns_one ac_NoWord h1; cases ns_one ac_NoNumber h2; exact kt_NoWord_NoNumber, fun C D h1 h2 => by cases ns_one ac_NoWord h1; cases ns_one ac_NoLine h2; exact kt_NoWord_NoLine, fun C D h1 h2 => by cases ns_one ac_NoWord h1; cases ns_one ac_Sweeping h2; exact kt_NoWord_Sweeping, fun C D h1 h2 => by cases ns_one ac_NoWord h1; cases ns_one ac_NoSweep h2; exact kt_NoWord_NoSweep, fun C D h1 h2 => by cases ns_one ac_NoWord h1; cases ns_one ac_Fault h2; exact kt_NoWord_Fault, fun C D h1 h2 => by cases ns_one ac_NoWord h1; cases ns_one ac_NoRows h2; exact kt_NoWord_NoRows, fun C D h1 h2 => by cases ns_one ac_NoWord h1; cases ns_one ac_NoText h2; exact kt_NoWord_NoText, fun C D h1 h2 => by cases ns_one ac_NoWord h1; cases ns_one ac_NoDeeds h2; exact kt_NoWord_NoDeeds, fun C D h1 h2 => by cases ns_one ac_NoWord h1; cases ns_one ac_NoName h2; exact kt_NoWord_NoName, fun C D h1 h2 => by cases ns_one ac_NoWord h1; cases ns_one ac_TooMany h2; exact kt_NoWord_TooMany, fun C D h1 h2 => by cases ns_one ac_NoWord h1; cases ns_one ac_NoCompartment h2; exact kt_NoWord_NoCompartment, fun C D h1 h2 => by cases ns_one ac_NoHands h1; cases ns_one ac_NoFields h2; exact kt_NoHands_NoFields, fun C D h1 h2 => by cases ns_one ac_NoHands h1; cases ns_one ac_NoBounds h2; exact kt_NoHands_NoBounds, fun C D h1 h2 => by cases ns_one ac_NoHands h1; cases ns_one ac_NoOffset h2; exact kt_NoHands_NoOffset, fun C D h1 h2 => by cases ns_one ac_NoHands h1; cases ns_one ac_NoAddress h2; exact kt_NoHands_NoAddress, fun C D h1 h2 => by cases ns_one ac_NoHands h1; cases ns_one ac_NoWord h2; exact kt_NoHands_NoWord, fun C D h1 h2 => by cases ns_one ac_NoHands h1; cases ns_one ac_NoHands h2; exact kt_NoHands_NoHands, fun C D h1 h2 => by cases ns_one ac_NoHands h1; cases ns_one ac_NoRule h2; exact kt_NoHands_NoRule, fun C D h1 h2 => by cases ns_one ac_NoHands h1; cases ns_one ac_NoNumber h2; exact kt_NoHands_NoNumber, fun C D h1 h2 => by cases ns_one ac_NoHands h1; cases ns_one ac_NoLine h2; exact kt_NoHands_NoLine, fun C D h1 h2 => by cases ns_one ac_NoHands h1; cases ns_one ac_Sweeping h2; exact kt_NoHands_Sweeping, fun C D h1 h2 => by cases ns_one ac_NoHands h1; cases ns_one ac_NoSweep h2; exact kt_NoHands_NoSweep, fun C D h1 h2 => by cases ns_one ac_NoHands h1; cases ns_one ac_Fault h2; exact kt_NoHands_Fault, fun C D h1 h2 => by cases ns_one ac_NoHands h1; cases ns_one ac_NoRows h2; exact kt_NoHands_NoRows, fun C D h1 h2 => by cases ns_one ac_NoHands h1; cases ns_one ac_NoText h2; exact kt_NoHands_NoText, fun C D h1 h2 => by cases ns_one ac_NoHands h1; cases ns_one ac_NoDeeds h2; exact kt_NoHands_NoDeeds, fun C D h1 h2 => by cases ns_one ac_NoHands h1; cases ns_one ac_NoName h2; exact kt_NoHands_NoName, fun C D h1 h2 => by cases ns_one ac_NoHands h1; cases ns_one ac_TooMany h2; exact kt_NoHands_TooMany, fun C D h1 h2 => by cases ns_one ac_NoHands h1; cases ns_one ac_NoCompartment h2; exact kt_NoHands_NoCompartment, fun C D h1 h2 => by cases ns_one ac_NoRule h1; cases ns_one ac_NoFields h2; exact kt_NoRule_NoFields, fun C D h1 h2 => by cases ns_one ac_NoRule h1; cases ns_one ac_NoBounds h2; exact kt_NoRule_NoBounds, fun C D h1 h2 => by cases ns_one ac_NoRule h1; cases ns_one ac_NoOffset h2; exact kt_NoRule_NoOffset, fun C D h1 h2 => by cases ns_one ac_NoRule h1; cases ns_one ac_NoAddress h2; exact kt_NoRule_NoAddress, fun C D h1 h2 => by cases ns_one ac_NoRule h1; cases ns_one ac_NoWord h2; exact kt_NoRule_NoWord, fun C D h1 h2 => by cases ns_one ac_NoRule h1; cases ns_one ac_NoHands h2; exact kt_NoRule_NoHands, fun C D h1 h2 => by cases ns_one ac_NoRule h1; cases ns_one ac_NoRule h2; exact kt_NoRule_NoRule, fun C D h1 h2 => by cases ns_one ac_NoRule h1; cases ns_one ac_NoNumber h2; exact kt_NoRule_NoNumber, fun C D h1 h2 => by cases ns_one ac_NoRule h1; cases ns_one ac_NoLine h2; exact kt_NoRule_NoLine, fun C D h1 h2 => by cases ns_one ac_NoRule h1; cases ns_one ac_Sweeping h2; exact kt_NoRule_Sweeping, fun C D h1 h2 => by cases ns_one ac_NoRule h1; cases ns_one ac_NoSweep h2; exact kt_NoRule_NoSweep, fun C D h1 h2 => by cases ns_one ac_NoRule h1; cases ns_one ac_Fault h2; exact kt_NoRule_Fault, fun C D h1 h2 => by cases ns_one ac_NoRule h1; cases ns_one ac_NoRows h2; exact kt_NoRule_NoRows, fun C D h1 h2 => by cases ns_one ac_NoRule h1; cases ns_one ac_NoText h2; exact kt_NoRule_NoText, fun C D h1 h2 => by cases ns_one ac_NoRule h1; cases ns_one ac_NoDeeds h2; exact kt_NoRule_NoDeeds, fun C D h1 h2 => by cases ns_one ac_NoRule h1; cases ns_one ac_NoName h2; exact kt_NoRule_NoName, fun C D h1 h2 => by cases ns_one ac_NoRule h1; cases ns_one ac_TooMany h2; exact kt_NoRule_TooMany, fun C D h1 h2 => by cases ns_one ac_NoRule h1; cases ns_one ac_NoCompartment h2; exact kt_NoRule_NoCompartment, fun C D h1 h2 => by cases ns_one ac_NoNumber h1; cases ns_one ac_NoFields h2; exact kt_NoNumber_NoFields, fun C D h1 h2 => by cases ns_one ac_NoNumber h1; cases ns_one ac_NoBounds h2; exact kt_NoNumber_NoBounds, fun C D h1 h2 => by cases ns_one ac_NoNumber h1; cases ns_one ac_NoOffset h2; exact kt_NoNumber_NoOffset, fun C D h1 h2 => by cases ns_one ac_NoNumber h1; cases ns_one ac_NoAddress h2; exact kt_NoNumber_NoAddress, fun C D h1 h2 => by cases ns_one ac_NoNumber h1; cases ns_one ac_NoWord h2; exact kt_NoNumber_NoWord, fun C D h1 h2 => by cases ns_one ac_NoNumber h1; cases ns_one ac_NoHands h2; exact kt_NoNumber_NoHands, fun C D h1 h2 => by cases ns_one ac_NoNumber h1; cases ns_one ac_NoRule h2; exact kt_NoNumber_NoRule, fun C D h1 h2 => by cases ns_one ac_NoNumber h1; cases ns_one ac_NoNumber h2; exact kt_NoNumber_NoNumber, fun C D h1 h2 => by cases ns_one ac_NoNumber h1; cases ns_one ac_NoLine h2; exact kt_NoNumber_NoLine, fun C D h1 h2 => by cases ns_one ac_NoNumber h1; cases ns_one ac_Sweeping h2; exact kt_NoNumber_Sweeping, fun C D h1 h2 => by cases ns_one ac_NoNumber h1; cases ns_one ac_NoSweep h2; exact kt_NoNumber_NoSweep, fun C D h1 h2 => by cases ns_one ac_NoNumber h1; cases ns_one ac_Fault h2; exact kt_NoNumber_Fault, fun C D h1 h2 => by cases ns_one ac_NoNumber h1; cases ns_one ac_NoRows h2; exact kt_NoNumber_NoRows, fun C D h1 h2 => by cases ns_one ac_NoNumber h1; cases ns_one ac_NoText h2; exact kt_NoNumber_NoText, fun C D h1 h2 => by cases ns_one ac_NoNumber h1; cases ns_one ac_NoDeeds h2; exact kt_NoNumber_NoDeeds, fun C D h1 h2 => by cases ns_one ac_NoNumber h1; cases ns_one ac_NoName h2; exact kt_NoNumber_NoName, fun C D h1 h2 => by cases ns_one ac_NoNumber h1; cases ns_one ac_TooMany h2; exact kt_NoNumber_TooMany, fun C D h1 h2 => by cases ns_one ac_NoNumber h1; cases ns_one ac_NoCompartment h2; exact kt_NoNumber_NoCompartment, fun C D h1 h2 => by cases ns_one ac_NoLine h1; cases ns_one ac_NoFields h2; exact kt_NoLine_NoFields, fun C D h1 h2 => by cases ns_one ac_NoLine h1; cases ns_one ac_NoBounds h2; exact kt_NoLine_NoBounds, fun C D h1 h2 => by cases ns_one ac_NoLine h1; cases ns_one ac_NoOffset h2; exact kt_NoLine_NoOffset, fun C D h1 h2 => by cases ns_one ac_NoLine h1; cases ns_one ac_NoAddress h2; exact kt_NoLine_NoAddress, fun C D h1 h2 => by cases ns_one ac_NoLine h1; cases ns_one ac_NoWord h2; exact kt_NoLine_NoWord, fun C D h1 h2 => by cases ns_one ac_NoLine h1; cases ns_one ac_NoHands h2; exact kt_NoLine_NoHands, fun C D h1 h2 => by cases ns_one ac_NoLine h1; cases ns_one ac_NoRule h2; exact kt_NoLine_NoRule, fun C D h1 h2 => by cases ns_one ac_NoLine h1; cases ns_one ac_NoNumber h2; exact kt_NoLine_NoNumber, fun C D h1 h2 => by cases ns_one ac_NoLine h1; cases ns_one ac_NoLine h2; exact kt_NoLine_NoLine, fun C D h1 h2 => by cases ns_one ac_NoLine h1; cases ns_one ac_Sweeping h2; exact kt_NoLine_Sweeping, fun C D h1 h2 => by cases ns_one ac_NoLine h1; cases ns_one ac_NoSweep h2; exact kt_NoLine_NoSweep, fun C D h1 h2 => by cases ns_one ac_NoLine h1; cases ns_one ac_Fault h2; exact kt_NoLine_Fault, fun C D h1 h2 => by cases ns_one ac_NoLine h1; cases ns_one ac_NoRows h2; exact kt_NoLine_NoRows, fun C D h1 h2 => by cases ns_one ac_NoLine h1; cases ns_one ac_NoText h2; exact kt_NoLine_NoText, fun C D h1 h2 => by cases ns_one ac_NoLine h1; cases ns_one ac_NoDeeds h2; exact kt_NoLine_NoDeeds, fun C D h1 h2 => by cases ns_one ac_NoLine h1; cases ns_one ac_NoName h2; exact kt_NoLine_NoName, fun C D h1 h2 => by cases ns_one ac_NoLine h1; cases ns_one ac_TooMany h2; exact kt_NoLine_TooMany, fun C D h1 h2 => by cases ns_one ac_NoLine h1; cases ns_one ac_NoCompartment h2; exact kt_NoLine_NoCompartment, fun C D h1 h2 => by cases ns_one ac_Sweeping h1; cases ns_one ac_NoFields h2; exact kt_Sweeping_NoFields, fun C D h1 h2 => by cases ns_one ac_Sweeping h1; cases ns_one ac_NoBounds h2; exact kt_Sweeping_NoBounds, fun C D h1 h2 => by cases ns_one ac_Sweeping h1; cases ns_one ac_NoOffset h2; exact kt_Sweeping_NoOffset, fun C D h1 h2 => by cases ns_one ac_Sweeping h1; cases ns_one ac_NoAddress h2; exact kt_Sweeping_NoAddress, fun C D h1 h2 => by cases ns_one ac_Sweeping h1; cases ns_one ac_NoWord h2; exact kt_Sweeping_NoWord, fun C D h1 h2 => by cases ns_one ac_Sweeping h1; cases ns_one ac_NoHands h2; exact kt_Sweeping_NoHands, fun C D h1 h2 => by cases ns_one ac_Sweeping h1; cases ns_one ac_NoRule h2; exact kt_Sweeping_NoRule, fun C D h1 h2 => by cases ns_one ac_Sweeping h1; cases ns_one ac_NoNumber h2; exact kt_Sweeping_NoNumber, fun C D h1 h2 => by cases ns_one ac_Sweeping h1; cases ns_one ac_NoLine h2; exact kt_Sweeping_NoLine, fun C D h1 h2 => by cases ns_one ac_Sweeping h1; cases ns_one ac_Sweeping h2; exact kt_Sweeping_Sweeping, fun C D h1 h2 => by cases ns_one ac_Sweeping h1; cases ns_one ac_NoSweep h2; exact kt_Sweeping_NoSweep, fun C D h1 h2 => by cases ns_one ac_Sweeping h1; cases ns_one ac_Fault h2; exact kt_Sweeping_Fault, fun C D h1 h2 => by cases ns_one ac_Sweeping h1; cases ns_one ac_NoRows h2; exact kt_Sweeping_NoRows, fun C D h1 h2 => by cases ns_one ac_Sweeping h1; cases ns_one ac_NoText h2; exact kt_Sweeping_NoText, fun C D h1 h2 => by cases ns_one ac_Sweeping h1; cases ns_one ac_NoDeeds h2; exact kt_Sweeping_NoDeeds, fun C D h1 h2 => by cases ns_one ac_Sweeping h1; cases ns_one ac_NoName h2; exact kt_Sweeping_NoName, fun C D h1 h2 => by cases ns_one ac_Sweeping h1; cases ns_one ac_TooMany h2; exact kt_Sweeping_TooMany, fun C D h1 h2 => by cases ns_one ac_Sweeping h1; cases ns_one ac_NoCompartment h2; exact kt_Sweeping_NoCompartment, fun C D h1 h2 => by cases ns_one ac_NoSweep h1; cases ns_one ac_NoFields h2; exact kt_NoSweep_NoFields, fun C D h1 h2 => by cases ns_one ac_NoSweep h1; cases ns_one ac_NoBounds h2; exact kt_NoSweep_NoBounds, fun C D h1 h2 => by cases ns_one ac_NoSweep h1; cases ns_one ac_NoOffset h2; exact kt_NoSweep_NoOffset, fun C D h1 h2 => by cases ns_one ac_NoSweep h1; cases ns_one ac_NoAddress h2; exact kt_NoSweep_NoAddress, fun C D h1 h2 => by cases ns_one ac_NoSweep h1; cases ns_one ac_NoWord h2; exact kt_NoSweep_NoWord, fun C D h1 h2 => by cases ns_one ac_NoSweep h1; cases ns_one ac_NoHands h2; exact kt_NoSweep_NoHands, fun C D h1 h2 => by cases ns_one ac_NoSweep h1; cases ns_one ac_NoRule h2; exact kt_NoSweep_NoRule, fun C D h1 h2 => by cases ns_one ac_NoSweep h1; cases ns_one ac_NoNumber h2; exact kt_NoSweep_NoNumber, fun C D h1 h2 => by cases ns_one ac_NoSweep h1; cases ns_one ac_NoLine h2; exact kt_NoSweep_NoLine, fun C D h1 h2 => by cases ns_one ac_NoSweep h1; cases ns_one ac_Sweeping h2; exact kt_NoSweep_Sweeping, fun C D h1 h2 => by cases ns_one ac_NoSweep h1; cases ns_one ac_NoSweep h2; exact kt_NoSweep_NoSweep, fun C D h1 h2 => by cases ns_one ac_NoSweep h1; cases ns_one ac_Fault h2; exact kt_NoSweep_Fault, fun C D h1 h2 => by cases ns_one ac_NoSweep h1; cases ns_one ac_NoRows h2; exact kt_NoSweep_NoRows, fun C D h1 h2 => by cases ns_one ac_NoSweep h1; cases ns_one ac_NoText h2; exact kt_NoSweep_NoText, fun C D h1 h2 => by cases ns_one ac_NoSweep h1; cases ns_one ac_NoDeeds h2; exact kt_NoSweep_NoDeeds, fun C D h1 h2 => by cases ns_one ac_NoSweep h1; cases ns_one ac_NoName h2; exact kt_NoSweep_NoName, fun C D h1 h2 => by cases ns_one ac_NoSweep h1; cases ns_one ac_TooMany h2; exact kt_NoSweep_TooMany, fun C D h1 h2 => by cases ns_one ac_NoSweep h1; cases ns_one ac_NoCompartment h2; exact kt_NoSweep_NoCompartment, fun C D h1 h2 => by cases ns_one ac_Fault h1; cases ns_one ac_NoFields h2; exact kt_Fault_NoFields, fun C D h1 h2 => by cases ns_one ac_Fault h1; cases ns_one ac_NoBounds h2; exact kt_Fault_NoBounds, fun C D h1 h2 => by cases ns_one ac_Fault h1; cases ns_one ac_NoOffset h2; exact kt_Fault_NoOffset, fun C D h1 h2 => by cases ns_one ac_Fault h1; cases ns_one ac_NoAddress h2; exact kt_Fault_NoAddress, fun C D h1 h2 => by cases ns_one ac_Fault h1; cases ns_one ac_NoWord h2; exact kt_Fault_NoWord, fun C D h1 h2 => by cases ns_one ac_Fault h1; cases ns_one ac_NoHands h2; exact kt_Fault_NoHands, fun C D h1 h2 => by cases ns_one ac_Fault h1; cases ns_one ac_NoRule h2; exact kt_Fault_NoRule, fun C D h1 h2 => by cases ns_one ac_Fault h1; cases ns_one ac_NoNumber h2; exact kt_Fault_NoNumber, fun C D h1 h2 => by cases ns_one ac_Fault h1; cases ns_one ac_NoLine h2; exact kt_Fault_NoLine, fun C D h1 h2 => by cases ns_one ac_Fault h1; cases ns_one ac_Sweeping h2; exact kt_Fault_Sweeping, fun C D h1 h2 => by cases ns_one ac_Fault h1; cases ns_one ac_NoSweep h2; exact kt_Fault_NoSweep, fun C D h1 h2 => by cases ns_one ac_Fault h1; cases ns_one ac_Fault h2; exact kt_Fault_Fault, fun C D h1 h2 => by cases ns_one ac_Fault h1; cases ns_one ac_NoRows h2; exact kt_Fault_NoRows, fun C D h1 h2 => by cases ns_one ac_Fault h1; cases ns_one ac_NoText h2; exact kt_Fault_NoText, fun C D h1 h2 => by cases ns_one ac_Fault h1; cases ns_one ac_NoDeeds h2; exact kt_Fault_NoDeeds, fun C D h1 h2 => by cases ns_one ac_Fault h1; cases ns_one ac_NoName h2; exact kt_Fault_NoName, fun C D h1 h2 => by cases ns_one ac_Fault h1; cases ns_one ac_TooMany h2; exact kt_Fault_TooMany, fun C D h1 h2 => by cases ns_one ac_Fault h1; cases ns_one ac_NoCompartment h2; exact kt_Fault_NoCompartment, fun C D h1 h2 => by cases ns_one ac_NoRows h1; cases ns_one ac_NoFields h2; exact kt_NoRows_NoFields, fun C D h1 h2 => by cases ns_one ac_NoRows h1; cases ns_one ac_NoBounds h2; exact kt_NoRows_NoBounds, fun C D h1 h2 => by cases ns_one ac_NoRows h1; cases ns_one ac_NoOffset h2; exact kt_NoRows_NoOffset, fun C D h1 h2 => by cases ns_one ac_NoRows h1; cases ns_one ac_NoAddress h2; exact kt_NoRows_NoAddress, fun C D h1 h2 => by cases ns_one ac_NoRows h1; cases ns_one ac_NoWord h2; exact kt_NoRows_NoWord, fun C D h1 h2 => by cases ns_one ac_NoRows h1; cases ns_one ac_NoHands h2; exact kt_NoRows_NoHands, fun C D h1 h2 => by cases ns_one ac_NoRows h1; cases ns_one ac_NoRule h2; exact kt_NoRows_NoRule, fun C D h1 h2 => by cases ns_one ac_NoRows h1; cases ns_one ac_NoNumber h2; exact kt_NoRows_NoNumber, fun C D h1 h2 => by cases ns_one ac_NoRows h1; cases ns_one ac_NoLine h2; exact kt_NoRows_NoLine, fun C D h1 h2 => by cases ns_one ac_NoRows h1; cases ns_one ac_Sweeping h2; exact kt_NoRows_Sweeping, fun C D h1 h2 => by cases ns_one ac_NoRows h1; cases ns_one ac_NoSweep h2; exact kt_NoRows_NoSweep, fun C D h1 h2 => by cases ns_one ac_NoRows h1; cases ns_one ac_Fault h2; exact kt_NoRows_Fault, fun C D h1 h2 => by cases ns_one ac_NoRows h1; cases ns_one ac_NoRows h2; exact kt_NoRows_NoRows, fun C D h1 h2 => by cases ns_one ac_NoRows h1; cases ns_one ac_NoText h2; exact kt_NoRows_NoText, fun C D h1 h2 => by cases ns_one ac_NoRows h1; cases ns_one ac_NoDeeds h2; exact kt_NoRows_NoDeeds, fun C D h1 h2 => by cases ns_one ac_NoRows h1; cases ns_one ac_NoName h2; exact kt_NoRows_NoName, fun C D h1 h2 => by cases ns_one ac_NoRows h1; cases ns_one ac_TooMany h2; exact kt_NoRows_TooMany, fun C D h1 h2 => by cases ns_one ac_NoRows h1; cases ns_one ac_NoCompartment h2; exact kt_NoRows_NoCompartment, fun C D h1 h2 => by cases ns_one ac_NoText h1; cases ns_one ac_NoFields h2; exact kt_NoText_NoFields, fun C D h1 h2 => by cases ns_one ac_NoText h1; cases ns_one ac_NoBounds h2; exact kt_NoText_NoBounds, fun C D h1 h2 => by cases ns_one ac_NoText h1; cases ns_one ac_NoOffset h2; exact kt_NoText_NoOffset, fun C D h1 h2 => by cases ns_one ac_NoText h1; cases ns_one ac_NoAddress h2; exact kt_NoText_NoAddress, fun C D h1 h2 => by cases ns_one ac_NoText h1; cases ns_one ac_NoWord h2; exact kt_NoText_NoWord, fun C D h1 h2 => by cases ns_one ac_NoText h1; cases ns_one ac_NoHands h2; exact kt_NoText_NoHands, fun C D h1 h2 => by cases ns_one ac_NoText h1; cases ns_one ac_NoRule h2; exact kt_NoText_NoRule, fun C D h1 h2 => by cases ns_one ac_NoText h1; cases ns_one ac_NoNumber h2; exact kt_NoText_NoNumber, fun C D h1 h2 => by cases ns_one ac_NoText h1; cases ns_one ac_NoLine h2; exact kt_NoText_NoLine, fun C D h1 h2 => by cases ns_one ac_NoText h1; cases ns_one ac_Sweeping h2; exact kt_NoText_Sweeping, fun C D h1 h2 => by cases ns_one ac_NoText h1; cases ns_one ac_NoSweep h2; exact kt_NoText_NoSweep, fun C D h1 h2 => by cases ns_one ac_NoText h1; cases ns_one ac_Fault h2; exact kt_NoText_Fault, fun C D h1 h2 => by cases ns_one ac_NoText h1; cases ns_one ac_NoRows h2; exact kt_NoText_NoRows, fun C D h1 h2 => by cases ns_one ac_NoText h1; cases ns_one ac_NoText h2; exact kt_NoText_NoText, fun C D h1 h2 => by cases ns_one ac_NoText h1; cases ns_one ac_NoDeeds h2; exact kt_NoText_NoDeeds, fun C D h1 h2 => by cases ns_one ac_NoText h1; cases ns_one ac_NoName h2; exact kt_NoText_NoName, fun C D h1 h2 => by cases ns_one ac_NoText h1; cases ns_one ac_TooMany h2; exact kt_NoText_TooMany, fun C D h1 h2 => by cases ns_one ac_NoText h1; cases ns_one ac_NoCompartment h2; exact kt_NoText_NoCompartment, fun C D h1 h2 => by cases ns_one ac_NoDeeds h1; cases ns_one ac_NoFields h2; exact kt_NoDeeds_NoFields, fun C D h1 h2 => by cases ns_one ac_NoDeeds h1; cases ns_one ac_NoBounds h2; exact kt_NoDeeds_NoBounds, fun C D h1 h2 => by cases ns_one ac_NoDeeds h1; cases ns_one ac_NoOffset h2; exact kt_NoDeeds_NoOffset, fun C D h1 h2 => by cases ns_one ac_NoDeeds h1; cases ns_one ac_NoAddress h2; exact kt_NoDeeds_NoAddress, fun C D h1 h2 => by cases ns_one ac_NoDeeds h1; cases ns_one ac_NoWord h2; exact kt_NoDeeds_NoWord, fun C D h1 h2 => by cases ns_one ac_NoDeeds h1; cases ns_one ac_NoHands h2; exact kt_NoDeeds_NoHands, fun C D h1 h2 => by cases ns_one ac_NoDeeds h1; cases ns_one ac_NoRule h2; exact kt_NoDeeds_NoRule, fun C D h1 h2 => by cases ns_one ac_NoDeeds h1; cases ns_one ac_NoNumber h2; exact kt_NoDeeds_NoNumber, fun C D h1 h2 => by cases ns_one ac_NoDeeds h1; cases ns_one ac_NoLine h2; exact kt_NoDeeds_NoLine, fun C D h1 h2 => by cases ns_one ac_NoDeeds h1; cases ns_one ac_Sweeping h2; exact kt_NoDeeds_Sweeping, fun C D h1 h2 => by cases ns_one ac_NoDeeds h1; cases ns_one ac_NoSweep h2; exact kt_NoDeeds_NoSweep, fun C D h1 h2 => by cases ns_one ac_NoDeeds h1; cases ns_one ac_Fault h2; exact kt_NoDeeds_Fault, fun C D h1 h2 => by cases ns_one ac_NoDeeds h1; cases ns_one ac_NoRows h2; exact kt_NoDeeds_NoRows, fun C D h1 h2 => by cases ns_one ac_NoDeeds h1; cases ns_one ac_NoText h2; exact kt_NoDeeds_NoText, fun C D h1 h2 => by cases ns_one ac_NoDeeds h1; cases ns_one ac_NoDeeds h2; exact kt_NoDeeds_NoDeeds, fun C D h1 h2 => by cases ns_one ac_NoDeeds h1; cases ns_one ac_NoName h2; exact kt_NoDeeds_NoName, fun C D h1 h2 => by cases ns_one ac_NoDeeds h1; cases ns_one ac_TooMany h2; exact kt_NoDeeds_TooMany, fun C D h1 h2 => by cases ns_one ac_NoDeeds h1; cases ns_one ac_NoCompartment h2; exact kt_NoDeeds_NoCompartment, fun C D h1 h2 => by cases ns_one ac_NoName h1; cases ns_one ac_NoFields h2; exact kt_NoName_NoFields, fun C D h1 h2 => by cases ns_one ac_NoName h1; cases ns_one ac_NoBounds h2; exact kt_NoName_NoBounds, fun C D h1 h2 => by cases ns_one ac_NoName h1; cases ns_one ac_NoOffset h2; exact kt_NoName_NoOffset, fun C D h1 h2 => by cases ns_one ac_NoName h1; cases ns_one ac_NoAddress h2; exact kt_NoName_NoAddress, fun C D h1 h2 => by cases ns_one ac_NoName h1; cases ns_one ac_NoWord h2; exact kt_NoName_NoWord, fun C D h1 h2 => by cases ns_one ac_NoName h1; cases ns_one ac_NoHands h2; exact kt_NoName_NoHands, fun C D h1 h2 => by cases ns_one ac_NoName h1; cases ns_one ac_NoRule h2; exact kt_NoName_NoRule, fun C D h1 h2 => by cases ns_one ac_NoName h1; cases ns_one ac_NoNumber h2; exact kt_NoName_NoNumber, fun C D h1 h2 => by cases ns_one ac_NoName h1; cases ns_one ac_NoLine h2; exact kt_NoName_NoLine, fun C D h1 h2 => by cases ns_one ac_NoName h1; cases ns_one ac_Sweeping h2; exact kt_NoName_Sweeping, fun C D h1 h2 => by cases ns_one ac_NoName h1; cases ns_one ac_NoSweep h2; exact kt_NoName_NoSweep, fun C D h1 h2 => by cases ns_one ac_NoName h1; cases ns_one ac_Fault h2; exact kt_NoName_Fault, fun C D h1 h2 => by cases ns_one ac_NoName h1; cases ns_one ac_NoRows h2; exact kt_NoName_NoRows, fun C D h1 h2 => by cases ns_one ac_NoName h1; cases ns_one ac_NoText h2; exact kt_NoName_NoText, fun C D h1 h2 => by cases ns_one ac_NoName h1; cases ns_one ac_NoDeeds h2; exact kt_NoName_NoDeeds, fun C D h1 h2 => by cases ns_one ac_NoName h1; cases ns_one ac_NoName h2; exact kt_NoName_NoName, fun C D h1 h2 => by cases ns_one ac_NoName h1; cases ns_one ac_TooMany h2; exact kt_NoName_TooMany, fun C D h1 h2 => by cases ns_one ac_NoName h1; cases ns_one ac_NoCompartment h2; exact kt_NoName_NoCompartment, fun C D h1 h2 => by cases ns_one ac_TooMany h1; cases ns_one ac_NoFields h2; exact kt_TooMany_NoFields, fun C D h1 h2 => by cases ns_one ac_TooMany h1; cases ns_one ac_NoBounds h2; exact kt_TooMany_NoBounds, fun C D h1 h2 => by cases ns_one ac_TooMany h1; cases ns_one ac_NoOffset h2; exact kt_TooMany_NoOffset, fun C D h1 h2 => by cases ns_one ac_TooMany h1; cases ns_one ac_NoAddress h2; exact kt_TooMany_NoAddress, fun C D h1 h2 => by cases ns_one ac_TooMany h1; cases ns_one ac_NoWord h2; exact kt_TooMany_NoWord, fun C D h1 h2 => by cases ns_one ac_TooMany h1; cases ns_one ac_NoHands h2; exact kt_TooMany_NoHands, fun C D h1 h2 => by cases ns_one ac_TooMany h1; cases ns_one ac_NoRule h2; exact kt_TooMany_NoRule, fun C D h1 h2 => by cases ns_one ac_TooMany h1; cases ns_one ac_NoNumber h2; exact kt_TooMany_NoNumber, fun C D h1 h2 => by cases ns_one ac_TooMany h1; cases ns_one ac_NoLine h2; exact kt_TooMany_NoLine, fun C D h1 h2 => by cases ns_one ac_TooMany h1; cases ns_one ac_Sweeping h2; exact kt_TooMany_Sweeping, fun C D h1 h2 => by cases ns_one ac_TooMany h1; cases ns_one ac_NoSweep h2; exact kt_TooMany_NoSweep, fun C D h1 h2 => by cases ns_one ac_TooMany h1; cases ns_one ac_Fault h2; exact kt_TooMany_Fault, fun C D h1 h2 => by cases ns_one ac_TooMany h1; cases ns_one ac_NoRows h2; exact kt_TooMany_NoRows, fun C D h1 h2 => by cases ns_one ac_TooMany h1; cases ns_one ac_NoText h2; exact kt_TooMany_NoText, fun C D h1 h2 => by cases ns_one ac_TooMany h1; cases ns_one ac_NoDeeds h2; exact kt_TooMany_NoDeeds, fun C D h1 h2 => by cases ns_one ac_TooMany h1; cases ns_one ac_NoName h2; exact kt_TooMany_NoName, fun C D h1 h2 => by cases ns_one ac_TooMany h1; cases ns_one ac_TooMany h2; exact kt_TooMany_TooMany, fun C D h1 h2 => by cases ns_one ac_TooMany h1; cases ns_one ac_NoCompartment h2; exact kt_TooMany_NoCompartment, fun C D h1 h2 => by cases ns_one ac_NoCompartment h1; cases ns_one ac_NoFields h2; exact kt_NoCompartment_NoFields, fun C D h1 h2 => by cases ns_one ac_NoCompartment h1; cases ns_one ac_NoBounds h2; exact kt_NoCompartment_NoBounds, fun C D h1 h2 => by cases ns_one ac_NoCompartment h1; cases ns_one ac_NoOffset h2; exact kt_NoCompartment_NoOffset, fun C D h1 h2 => by cases ns_one ac_NoCompartment h1; cases ns_one ac_NoAddress h2; exact kt_NoCompartment_NoAddress, fun C D h1 h2 => by cases ns_one ac_NoCompartment h1; cases ns_one ac_NoWord h2; exact kt_NoCompartment_NoWord, fun C D h1 h2 => by cases ns_one ac_NoCompartment h1; cases ns_one ac_NoHands h2; exact kt_NoCompartment_NoHands, fun C D h1 h2 => by cases ns_one ac_NoCompartment h1; cases ns_one ac_NoRule h2; exact kt_NoCompartment_NoRule, fun C D h1 h2 => by cases ns_one ac_NoCompartment h1; cases ns_one ac_NoNumber h2; exact kt_NoCompartment_NoNumber, fun C D h1 h2 => by cases ns_one ac_NoCompartment h1; cases ns_one ac_NoLine h2; exact kt_NoCompartment_NoLine, fun C D h1 h2 => by cases ns_one ac_NoCompartment h1; cases ns_one ac_Sweeping h2; exact kt_NoCompartment_Sweeping, fun C D h1 h2 => by cases ns_one ac_NoCompartment h1; cases ns_one ac_NoSweep h2; exact kt_NoCompartment_NoSweep, fun C D h1 h2 => by cases ns_one ac_NoCompartment h1; cases ns_one ac_Fault h2; exact kt_NoCompartment_Fault, fun C D h1 h2 => by cases ns_one ac_NoCompartment h1; cases ns_one ac_NoRows h2; exact kt_NoCompartment_NoRows, fun C D h1 h2 => by cases ns_one ac_NoCompartment h1; cases ns_one ac_NoText h2; exact kt_NoCompartment_NoText, fun C D h1 h2 => by cases ns_one ac_NoCompartment h1; cases ns_one ac_NoDeeds h2; exact kt_NoCompartment_NoDeeds, fun C D h1 h2 => by cases ns_one ac_NoCompartment h1; cases ns_one ac_NoName h2; exact kt_NoCompartment_NoName, fun C D h1 h2 => by cases ns_one ac_NoCompartment h1; cases ns_one ac_TooMany h2; exact kt_NoCompartment_TooMany, fun C D h1 h2 => by cases ns_one ac_NoCompartment h1; cases ns_one ac_NoCompartment h2; exact kt_NoCompartment_NoCompartment, fun C D h1 h2 => by cases ns_one ac_NoFields h1; cases ns_one ac_ReachError h2; exact kt_NoFields_ReachError, fun C h1 => by cases ns_one ac_NoFields h1; exact kt_NoFields_ValueError, fun C h1 => by cases ns_one ac_NoFields h1; exact kt_NoFields_OverflowError, fun C h1 => by cases ns_one ac_NoFields h1; exact kt_NoFields_KeyError, fun C h1 => by cases ns_one ac_NoFields h1; exact kt_NoFields_LookupError, fun C h1 => by cases ns_one ac_NoFields h1; exact kt_NoFields_RuntimeError, fun C h1 => by cases ns_one ac_NoFields h1; exact kt_NoFields_IndexError, fun C D h1 h2 => by cases ns_one ac_NoBounds h1; cases ns_one ac_ReachError h2; exact kt_NoBounds_ReachError, fun C h1 => by cases ns_one ac_NoBounds h1; exact kt_NoBounds_ValueError, fun C h1 => by cases ns_one ac_NoBounds h1; exact kt_NoBounds_OverflowError, fun C h1 => by cases ns_one ac_NoBounds h1; exact kt_NoBounds_KeyError, fun C h1 => by cases ns_one ac_NoBounds h1; exact kt_NoBounds_LookupError, fun C h1 => by cases ns_one ac_NoBounds h1; exact kt_NoBounds_RuntimeError, fun C h1 => by cases ns_one ac_NoBounds h1; exact kt_NoBounds_IndexError, fun C D h1 h2 => by cases ns_one ac_NoOffset h1; cases ns_one ac_ReachError h2; exact kt_NoOffset_ReachError, fun C h1 => by cases ns_one ac_NoOffset h1; exact kt_NoOffset_ValueError, fun C h1 => by cases ns_one ac_NoOffset h1; exact kt_NoOffset_OverflowError, fun C h1 => by cases ns_one ac_NoOffset h1; exact kt_NoOffset_KeyError, fun C h1 => by cases ns_one ac_NoOffset h1; exact kt_NoOffset_LookupError, fun C h1 => by cases ns_one ac_NoOffset h1; exact kt_NoOffset_RuntimeError, fun C h1 => by cases ns_one ac_NoOffset h1; exact kt_NoOffset_IndexError, fun C D h1 h2 => by cases ns_one ac_NoAddress h1; cases ns_one ac_ReachError h2; exact kt_NoAddress_ReachError, fun C h1 => by cases ns_one ac_NoAddress h1; exact kt_NoAddress_ValueError, fun C h1 => by cases ns_one ac_NoAddress h1; exact kt_NoAddress_OverflowError, fun C h1 => by cases ns_one ac_NoAddress h1; exact kt_NoAddress_KeyError, fun C h1 => by cases ns_one ac_NoAddress h1; exact kt_NoAddress_LookupError, fun C h1 => by cases ns_one ac_NoAddress h1; exact kt_NoAddress_RuntimeError, fun C h1 => by cases ns_one ac_NoAddress h1; exact kt_NoAddress_IndexError, fun C D h1 h2 => by cases ns_one ac_NoWord h1; cases ns_one ac_ReachError h2; exact kt_NoWord_ReachError, fun C h1 => by cases ns_one ac_NoWord h1; exact kt_NoWord_ValueError, fun C h1 => by cases ns_one ac_NoWord h1; exact kt_NoWord_OverflowError, fun C h1 => by cases ns_one ac_NoWord h1; exact kt_NoWord_KeyError, fun C h1 => by cases ns_one ac_NoWord h1; exact kt_NoWord_LookupError, fun C h1 => by cases ns_one ac_NoWord h1; exact kt_NoWord_RuntimeError, fun C h1 => by cases ns_one ac_NoWord h1; exact kt_NoWord_IndexError, fun C D h1 h2 => by cases ns_one ac_NoHands h1; cases ns_one ac_ReachError h2; exact kt_NoHands_ReachError, fun C h1 => by cases ns_one ac_NoHands h1; exact kt_NoHands_ValueError, fun C h1 => by cases ns_one ac_NoHands h1; exact kt_NoHands_OverflowError, fun C h1 => by cases ns_one ac_NoHands h1; exact kt_NoHands_KeyError, fun C h1 => by cases ns_one ac_NoHands h1; exact kt_NoHands_LookupError, fun C h1 => by cases ns_one ac_NoHands h1; exact kt_NoHands_RuntimeError, fun C h1 => by cases ns_one ac_NoHands h1; exact kt_NoHands_IndexError, fun C D h1 h2 => by cases ns_one ac_NoRule h1; cases ns_one ac_ReachError h2; exact kt_NoRule_ReachError, fun C h1 => by cases ns_one ac_NoRule h1; exact kt_NoRule_ValueError, fun C h1 => by cases ns_one ac_NoRule h1; exact kt_NoRule_OverflowError, fun C h1 => by cases ns_one ac_NoRule h1; exact kt_NoRule_KeyError, fun C h1 => by cases ns_one ac_NoRule h1; exact kt_NoRule_LookupError, fun C h1 => by cases ns_one ac_NoRule h1; exact kt_NoRule_RuntimeError, fun C h1 => by cases ns_one ac_NoRule h1; exact kt_NoRule_IndexError, fun C D h1 h2 => by cases ns_one ac_NoNumber h1; cases ns_one ac_ReachError h2; exact kt_NoNumber_ReachError, fun C h1 => by cases ns_one ac_NoNumber h1; exact kt_NoNumber_ValueError, fun C h1 => by cases ns_one ac_NoNumber h1; exact kt_NoNumber_OverflowError, fun C h1 => by cases ns_one ac_NoNumber h1; exact kt_NoNumber_KeyError, fun C h1 => by cases ns_one ac_NoNumber h1; exact kt_NoNumber_LookupError, fun C h1 => by cases ns_one ac_NoNumber h1; exact kt_NoNumber_RuntimeError, fun C h1 => by cases ns_one ac_NoNumber h1; exact kt_NoNumber_IndexError, fun C D h1 h2 => by cases ns_one ac_NoLine h1; cases ns_one ac_ReachError h2; exact kt_NoLine_ReachError, fun C h1 => by cases ns_one ac_NoLine h1; exact kt_NoLine_ValueError, fun C h1 => by cases ns_one ac_NoLine h1; exact kt_NoLine_OverflowError, fun C h1 => by cases ns_one ac_NoLine h1; exact kt_NoLine_KeyError, fun C h1 => by cases ns_one ac_NoLine h1; exact kt_NoLine_LookupError, fun C h1 => by cases ns_one ac_NoLine h1; exact kt_NoLine_RuntimeError, fun C h1 => by cases ns_one ac_NoLine h1; exact kt_NoLine_IndexError, fun C D h1 h2 => by cases ns_one ac_Sweeping h1; cases ns_one ac_ReachError h2; exact kt_Sweeping_ReachError, fun C h1 => by cases ns_one ac_Sweeping h1; exact kt_Sweeping_ValueError, fun C h1 => by cases ns_one ac_Sweeping h1; exact kt_Sweeping_OverflowError, fun C h1 => by cases ns_one ac_Sweeping h1; exact kt_Sweeping_KeyError, fun C h1 => by cases ns_one ac_Sweeping h1; exact kt_Sweeping_LookupError, fun C h1 => by cases ns_one ac_Sweeping h1; exact kt_Sweeping_RuntimeError, fun C h1 => by cases ns_one ac_Sweeping h1; exact kt_Sweeping_IndexError, fun C D h1 h2 => by cases ns_one ac_NoSweep h1; cases ns_one ac_ReachError h2; exact kt_NoSweep_ReachError, fun C h1 => by cases ns_one ac_NoSweep h1; exact kt_NoSweep_ValueError, fun C h1 => by cases ns_one ac_NoSweep h1; exact kt_NoSweep_OverflowError, fun C h1 => by cases ns_one ac_NoSweep h1; exact kt_NoSweep_KeyError, fun C h1 => by cases ns_one ac_NoSweep h1; exact kt_NoSweep_LookupError, fun C h1 => by cases ns_one ac_NoSweep h1; exact kt_NoSweep_RuntimeError, fun C h1 => by cases ns_one ac_NoSweep h1; exact kt_NoSweep_IndexError, fun C D h1 h2 => by cases ns_one ac_Fault h1; cases ns_one ac_ReachError h2; exact kt_Fault_ReachError, fun C h1 => by cases ns_one ac_Fault h1; exact kt_Fault_ValueError, fun C h1 => by cases ns_one ac_Fault h1; exact kt_Fault_OverflowError, fun C h1 => by cases ns_one ac_Fault h1; exact kt_Fault_KeyError, fun C h1 => by cases ns_one ac_Fault h1; exact kt_Fault_LookupError, fun C h1 => by cases ns_one ac_Fault h1; exact kt_Fault_RuntimeError, fun C h1 => by cases ns_one ac_Fault h1; exact kt_Fault_IndexError, fun C D h1 h2 => by cases ns_one ac_NoRows h1; cases ns_one ac_ReachError h2; exact kt_NoRows_ReachError, fun C h1 => by cases ns_one ac_NoRows h1; exact kt_NoRows_ValueError, fun C h1 => by cases ns_one ac_NoRows h1; exact kt_NoRows_OverflowError, fun C h1 => by cases ns_one ac_NoRows h1; exact kt_NoRows_KeyError, fun C h1 => by cases ns_one ac_NoRows h1; exact kt_NoRows_LookupError, fun C h1 => by cases ns_one ac_NoRows h1; exact kt_NoRows_RuntimeError, fun C h1 => by cases ns_one ac_NoRows h1; exact kt_NoRows_IndexError, fun C D h1 h2 => by cases ns_one ac_NoText h1; cases ns_one ac_ReachError h2; exact kt_NoText_ReachError, fun C h1 => by cases ns_one ac_NoText h1; exact kt_NoText_ValueError, fun C h1 => by cases ns_one ac_NoText h1; exact kt_NoText_OverflowError, fun C h1 => by cases ns_one ac_NoText h1; exact kt_NoText_KeyError, fun C h1 => by cases ns_one ac_NoText h1; exact kt_NoText_LookupError, fun C h1 => by cases ns_one ac_NoText h1; exact kt_NoText_RuntimeError, fun C h1 => by cases ns_one ac_NoText h1; exact kt_NoText_IndexError, fun C D h1 h2 => by cases ns_one ac_NoDeeds h1; cases ns_one ac_ReachError h2; exact kt_NoDeeds_ReachError, fun C h1 => by cases ns_one ac_NoDeeds h1; exact kt_NoDeeds_ValueError, fun C h1 => by cases ns_one ac_NoDeeds h1; exact kt_NoDeeds_OverflowError, fun C h1 => by cases ns_one ac_NoDeeds h1; exact kt_NoDeeds_KeyError, fun C h1 => by cases ns_one ac_NoDeeds h1; exact kt_NoDeeds_LookupError, fun C h1 => by cases ns_one ac_NoDeeds h1; exact kt_NoDeeds_RuntimeError, fun C h1 => by cases ns_one ac_NoDeeds h1; exact kt_NoDeeds_IndexError, fun C D h1 h2 => by cases ns_one ac_NoName h1; cases ns_one ac_ReachError h2; exact kt_NoName_ReachError, fun C h1 => by cases ns_one ac_NoName h1; exact kt_NoName_ValueError, fun C h1 => by cases ns_one ac_NoName h1; exact kt_NoName_OverflowError, fun C h1 => by cases ns_one ac_NoName h1; exact kt_NoName_KeyError, fun C h1 => by cases ns_one ac_NoName h1; exact kt_NoName_LookupError, fun C h1 => by cases ns_one ac_NoName h1; exact kt_NoName_RuntimeError, fun C h1 => by cases ns_one ac_NoName h1; exact kt_NoName_IndexError, fun C D h1 h2 => by cases ns_one ac_TooMany h1; cases ns_one ac_ReachError h2; exact kt_TooMany_ReachError, fun C h1 => by cases ns_one ac_TooMany h1; exact kt_TooMany_ValueError, fun C h1 => by cases ns_one ac_TooMany h1; exact kt_TooMany_OverflowError, fun C h1 => by cases ns_one ac_TooMany h1; exact kt_TooMany_KeyError, fun C h1 => by cases ns_one ac_TooMany h1; exact kt_TooMany_LookupError, fun C h1 => by cases ns_one ac_TooMany h1; exact kt_TooMany_RuntimeError, fun C h1 => by cases ns_one ac_TooMany h1; exact kt_TooMany_IndexError, fun C D h1 h2 => by cases ns_one ac_NoCompartment h1; cases ns_one ac_ReachError h2; exact kt_NoCompartment_ReachError, fun C h1 => by cases ns_one ac_NoCompartment h1; exact kt_NoCompartment_ValueError, fun C h1 => by cases ns_one ac_NoCompartment h1; exact kt_NoCompartment_OverflowError, fun C h1 => by cases ns_one ac_NoCompartment h1; exact kt_NoCompartment_KeyError, fun C h1 => by cases ns_one ac_NoCompartment h1; exact kt_NoCompartment_LookupError, fun C h1 => by cases ns_one ac_NoCompartment h1; exact kt_NoCompartment_RuntimeError, fun C h1 => by cases ns_one ac_NoCompartment h1; exact kt_NoCompartment_IndexError, fun C h1 => by cases ns_one ac_Fault h1; exact ef_Fault_word, fun C h1 => by cases ns_one ac_NoRows h1; exact ef_NoRows_number, fun C h1 => by cases ns_one ac_NoText h1; exact ef_NoText_number, fun C h1 => by cases ns_one ac_NoDeeds h1; exact ef_NoDeeds_number, fun C h1 => by cases ns_one ac_NoName h1; exact ef_NoName_name, fun C h1 => by cases ns_one ac_TooMany h1; exact ef_TooMany_size, fun C h1 => by cases ns_one ac_NoCompartment h1; exact ef_NoCompartment_number, fun C h1 => by cases ns_one ac_NoCompartment h1; exact ef_NoCompartment_part⟩
  intro base H s a ns kb nb e0 hS hlen sy
  have TO_Fault : OexG K C_Fault := ⟨⟨_, _, _, _, _, _, _, _, _, _, _, _, _, _, _, _, _, _, _, xl_Fault, PySem.F.excBase_ValueError, beh_ValueError.ref⟩, sa_Fault, eb_Fault, ty_Fault, kc_Fault⟩
  have FI_Fault := fun_mk (st := si_Fault) li_Fault ci_Fault ki_Fault
  have R_Fault : ErrKG l.prog w K mg base "Fault" "word" := ⟨C_Fault, fi_Fault, _, ac_Fault, PySem.W.mg_of X G ac_Fault, TO_Fault, in_Fault, ti_Fault, oki_Fault FI_Fault TO_Fault no_Fault, FI_Fault.binds fun _ _ _ _ _ _ us hl => match us, hl with | [_, _], _ => rfl⟩
  have TO_NoAddress : OexG K C_NoAddress := ⟨⟨_, _, _, _, _, _, _, _, _, _, _, _, _, _, _, _, _, _, _, xl_NoAddress, PySem.F.excBase_ValueError, beh_ValueError.ref⟩, sa_NoAddress, eb_NoAddress, ty_NoAddress, kc_NoAddress⟩
  have FI_NoAddress := fun_mk (st := si_NoAddress) li_NoAddress ci_NoAddress ki_NoAddress
  have R_NoAddress : ErrKG l.prog w K mg base "NoAddress" "text" := ⟨C_NoAddress, fi_NoAddress, _, ac_NoAddress, PySem.W.mg_of X G ac_NoAddress, TO_NoAddress, in_NoAddress, ti_NoAddress, oki_NoAddress FI_NoAddress TO_NoAddress no_NoAddress, FI_NoAddress.binds fun _ _ _ _ _ _ us hl => match us, hl with | [_, _], _ => rfl⟩
  have TO_NoBounds : OexG K C_NoBounds := ⟨⟨_, _, _, _, _, _, _, _, _, _, _, _, _, _, _, _, _, _, _, xl_NoBounds, PySem.F.excBase_ValueError, beh_ValueError.ref⟩, sa_NoBounds, eb_NoBounds, ty_NoBounds, kc_NoBounds⟩
  have FI_NoBounds := fun_mk (st := si_NoBounds) li_NoBounds ci_NoBounds ki_NoBounds
  have R_NoBounds : ErrKG l.prog w K mg base "NoBounds" "text" := ⟨C_NoBounds, fi_NoBounds, _, ac_NoBounds, PySem.W.mg_of X G ac_NoBounds, TO_NoBounds, in_NoBounds, ti_NoBounds, oki_NoBounds FI_NoBounds TO_NoBounds no_NoBounds, FI_NoBounds.binds fun _ _ _ _ _ _ us hl => match us, hl with | [_, _], _ => rfl⟩
  have TO_NoCompartment : OexG K C_NoCompartment := ⟨⟨_, _, _, _, _, _, _, _, _, _, _, _, _, _, _, _, _, _, _, xl_NoCompartment, PySem.F.excBase_ValueError, beh_ValueError.ref⟩, sa_NoCompartment, eb_NoCompartment, ty_NoCompartment, kc_NoCompartment⟩
  have FI_NoCompartment := fun_mk (st := si_NoCompartment) li_NoCompartment ci_NoCompartment ki_NoCompartment
  have R_NoCompartment : ErrK2G l.prog w K mg base "NoCompartment" "number" "part" := ⟨C_NoCompartment, fi_NoCompartment, _, ac_NoCompartment, PySem.W.mg_of X G ac_NoCompartment, TO_NoCompartment, in_NoCompartment, ti_NoCompartment, oki_NoCompartment FI_NoCompartment TO_NoCompartment no_NoCompartment n2_NoCompartment, FI_NoCompartment.binds fun _ _ _ _ _ _ us hl => match us, hl with | [_, _, _], _ => rfl⟩
  have TO_NoDeeds : OexG K C_NoDeeds := ⟨⟨_, _, _, _, _, _, _, _, _, _, _, _, _, _, _, _, _, _, _, xl_NoDeeds, PySem.F.excBase_ValueError, beh_ValueError.ref⟩, sa_NoDeeds, eb_NoDeeds, ty_NoDeeds, kc_NoDeeds⟩
  have FI_NoDeeds := fun_mk (st := si_NoDeeds) li_NoDeeds ci_NoDeeds ki_NoDeeds
  have R_NoDeeds : ErrKG l.prog w K mg base "NoDeeds" "number" := ⟨C_NoDeeds, fi_NoDeeds, _, ac_NoDeeds, PySem.W.mg_of X G ac_NoDeeds, TO_NoDeeds, in_NoDeeds, ti_NoDeeds, oki_NoDeeds FI_NoDeeds TO_NoDeeds no_NoDeeds, FI_NoDeeds.binds fun _ _ _ _ _ _ us hl => match us, hl with | [_, _], _ => rfl⟩
  have TO_NoFields : OexG K C_NoFields := ⟨⟨_, _, _, _, _, _, _, _, _, _, _, _, _, _, _, _, _, _, _, xl_NoFields, PySem.F.excBase_ValueError, beh_ValueError.ref⟩, sa_NoFields, eb_NoFields, ty_NoFields, kc_NoFields⟩
  have FI_NoFields := fun_mk (st := si_NoFields) li_NoFields ci_NoFields ki_NoFields
  have R_NoFields : ErrKG l.prog w K mg base "NoFields" "text" := ⟨C_NoFields, fi_NoFields, _, ac_NoFields, PySem.W.mg_of X G ac_NoFields, TO_NoFields, in_NoFields, ti_NoFields, oki_NoFields FI_NoFields TO_NoFields no_NoFields, FI_NoFields.binds fun _ _ _ _ _ _ us hl => match us, hl with | [_, _], _ => rfl⟩
  have TO_NoHands : OexG K C_NoHands := ⟨⟨_, _, _, _, _, _, _, _, _, _, _, _, _, _, _, _, _, _, _, xl_NoHands, PySem.F.excBase_ValueError, beh_ValueError.ref⟩, sa_NoHands, eb_NoHands, ty_NoHands, kc_NoHands⟩
  have FI_NoHands := fun_mk (st := si_NoHands) li_NoHands ci_NoHands ki_NoHands
  have R_NoHands : ErrKG l.prog w K mg base "NoHands" "text" := ⟨C_NoHands, fi_NoHands, _, ac_NoHands, PySem.W.mg_of X G ac_NoHands, TO_NoHands, in_NoHands, ti_NoHands, oki_NoHands FI_NoHands TO_NoHands no_NoHands, FI_NoHands.binds fun _ _ _ _ _ _ us hl => match us, hl with | [_, _], _ => rfl⟩
  have TO_NoLine : OexG K C_NoLine := ⟨⟨_, _, _, _, _, _, _, _, _, _, _, _, _, _, _, _, _, _, _, xl_NoLine, PySem.F.excBase_ValueError, beh_ValueError.ref⟩, sa_NoLine, eb_NoLine, ty_NoLine, kc_NoLine⟩
  have FI_NoLine := fun_mk (st := si_NoLine) li_NoLine ci_NoLine ki_NoLine
  have R_NoLine : ErrKG l.prog w K mg base "NoLine" "text" := ⟨C_NoLine, fi_NoLine, _, ac_NoLine, PySem.W.mg_of X G ac_NoLine, TO_NoLine, in_NoLine, ti_NoLine, oki_NoLine FI_NoLine TO_NoLine no_NoLine, FI_NoLine.binds fun _ _ _ _ _ _ us hl => match us, hl with | [_, _], _ => rfl⟩
  have TO_NoName : OexG K C_NoName := ⟨⟨_, _, _, _, _, _, _, _, _, _, _, _, _, _, _, _, _, _, _, xl_NoName, PySem.F.excBase_LookupError, beh_KeyError⟩, sa_NoName, eb_NoName, ty_NoName, kc_NoName⟩
  have FI_NoName := fun_mk (st := si_NoName) li_NoName ci_NoName ki_NoName
  have R_NoName : ErrKG l.prog w K mg base "NoName" "name" := ⟨C_NoName, fi_NoName, _, ac_NoName, PySem.W.mg_of X G ac_NoName, TO_NoName, in_NoName, ti_NoName, oki_NoName FI_NoName TO_NoName no_NoName, FI_NoName.binds fun _ _ _ _ _ _ us hl => match us, hl with | [_, _], _ => rfl⟩
  have TO_NoNumber : OexG K C_NoNumber := ⟨⟨_, _, _, _, _, _, _, _, _, _, _, _, _, _, _, _, _, _, _, xl_NoNumber, PySem.F.excBase_ValueError, beh_ValueError.ref⟩, sa_NoNumber, eb_NoNumber, ty_NoNumber, kc_NoNumber⟩
  have FI_NoNumber := fun_mk (st := si_NoNumber) li_NoNumber ci_NoNumber ki_NoNumber
  have R_NoNumber : ErrKG l.prog w K mg base "NoNumber" "text" := ⟨C_NoNumber, fi_NoNumber, _, ac_NoNumber, PySem.W.mg_of X G ac_NoNumber, TO_NoNumber, in_NoNumber, ti_NoNumber, oki_NoNumber FI_NoNumber TO_NoNumber no_NoNumber, FI_NoNumber.binds fun _ _ _ _ _ _ us hl => match us, hl with | [_, _], _ => rfl⟩
  have TO_NoOffset : OexG K C_NoOffset := ⟨⟨_, _, _, _, _, _, _, _, _, _, _, _, _, _, _, _, _, _, _, xl_NoOffset, PySem.F.excBase_ValueError, beh_ValueError.ref⟩, sa_NoOffset, eb_NoOffset, ty_NoOffset, kc_NoOffset⟩
  have FI_NoOffset := fun_mk (st := si_NoOffset) li_NoOffset ci_NoOffset ki_NoOffset
  have R_NoOffset : ErrKG l.prog w K mg base "NoOffset" "text" := ⟨C_NoOffset, fi_NoOffset, _, ac_NoOffset, PySem.W.mg_of X G ac_NoOffset, TO_NoOffset, in_NoOffset, ti_NoOffset, oki_NoOffset FI_NoOffset TO_NoOffset no_NoOffset, FI_NoOffset.binds fun _ _ _ _ _ _ us hl => match us, hl with | [_, _], _ => rfl⟩
  have TO_NoRows : OexG K C_NoRows := ⟨⟨_, _, _, _, _, _, _, _, _, _, _, _, _, _, _, _, _, _, _, xl_NoRows, PySem.F.excBase_ValueError, beh_ValueError.ref⟩, sa_NoRows, eb_NoRows, ty_NoRows, kc_NoRows⟩
  have FI_NoRows := fun_mk (st := si_NoRows) li_NoRows ci_NoRows ki_NoRows
  have R_NoRows : ErrKG l.prog w K mg base "NoRows" "number" := ⟨C_NoRows, fi_NoRows, _, ac_NoRows, PySem.W.mg_of X G ac_NoRows, TO_NoRows, in_NoRows, ti_NoRows, oki_NoRows FI_NoRows TO_NoRows no_NoRows, FI_NoRows.binds fun _ _ _ _ _ _ us hl => match us, hl with | [_, _], _ => rfl⟩
  have TO_NoRule : OexG K C_NoRule := ⟨⟨_, _, _, _, _, _, _, _, _, _, _, _, _, _, _, _, _, _, _, xl_NoRule, PySem.F.excBase_ValueError, beh_ValueError.ref⟩, sa_NoRule, eb_NoRule, ty_NoRule, kc_NoRule⟩
  have FI_NoRule := fun_mk (st := si_NoRule) li_NoRule ci_NoRule ki_NoRule
  have R_NoRule : ErrKG l.prog w K mg base "NoRule" "text" := ⟨C_NoRule, fi_NoRule, _, ac_NoRule, PySem.W.mg_of X G ac_NoRule, TO_NoRule, in_NoRule, ti_NoRule, oki_NoRule FI_NoRule TO_NoRule no_NoRule, FI_NoRule.binds fun _ _ _ _ _ _ us hl => match us, hl with | [_, _], _ => rfl⟩
  have TO_NoSweep : OexG K C_NoSweep := ⟨⟨_, _, _, _, _, _, _, _, _, _, _, _, _, _, _, _, _, _, _, xl_NoSweep, PySem.F.excBase_LookupError, beh_LookupError⟩, sa_NoSweep, eb_NoSweep, ty_NoSweep, kc_NoSweep⟩
  have FI_NoSweep := fun_mk (st := si_NoSweep) li_NoSweep ci_NoSweep ki_NoSweep
  have R_NoSweep : ErrKG l.prog w K mg base "NoSweep" "text" := ⟨C_NoSweep, fi_NoSweep, _, ac_NoSweep, PySem.W.mg_of X G ac_NoSweep, TO_NoSweep, in_NoSweep, ti_NoSweep, oki_NoSweep FI_NoSweep TO_NoSweep no_NoSweep, FI_NoSweep.binds fun _ _ _ _ _ _ us hl => match us, hl with | [_, _], _ => rfl⟩
  have TO_NoText : OexG K C_NoText := ⟨⟨_, _, _, _, _, _, _, _, _, _, _, _, _, _, _, _, _, _, _, xl_NoText, PySem.F.excBase_ValueError, beh_ValueError.ref⟩, sa_NoText, eb_NoText, ty_NoText, kc_NoText⟩
  have FI_NoText := fun_mk (st := si_NoText) li_NoText ci_NoText ki_NoText
  have R_NoText : ErrKG l.prog w K mg base "NoText" "number" := ⟨C_NoText, fi_NoText, _, ac_NoText, PySem.W.mg_of X G ac_NoText, TO_NoText, in_NoText, ti_NoText, oki_NoText FI_NoText TO_NoText no_NoText, FI_NoText.binds fun _ _ _ _ _ _ us hl => match us, hl with | [_, _], _ => rfl⟩
  have TO_NoWord : OexG K C_NoWord := ⟨⟨_, _, _, _, _, _, _, _, _, _, _, _, _, _, _, _, _, _, _, xl_NoWord, PySem.F.excBase_ValueError, beh_ValueError.ref⟩, sa_NoWord, eb_NoWord, ty_NoWord, kc_NoWord⟩
  have FI_NoWord := fun_mk (st := si_NoWord) li_NoWord ci_NoWord ki_NoWord
  have R_NoWord : ErrKG l.prog w K mg base "NoWord" "text" := ⟨C_NoWord, fi_NoWord, _, ac_NoWord, PySem.W.mg_of X G ac_NoWord, TO_NoWord, in_NoWord, ti_NoWord, oki_NoWord FI_NoWord TO_NoWord no_NoWord, FI_NoWord.binds fun _ _ _ _ _ _ us hl => match us, hl with | [_, _], _ => rfl⟩
  have TO_Sweeping : OexG K C_Sweeping := ⟨⟨_, _, _, _, _, _, _, _, _, _, _, _, _, _, _, _, _, _, _, xl_Sweeping, PySem.F.excBase_RuntimeError, beh_RuntimeError⟩, sa_Sweeping, eb_Sweeping, ty_Sweeping, kc_Sweeping⟩
  have FI_Sweeping := fun_mk (st := si_Sweeping) li_Sweeping ci_Sweeping ki_Sweeping
  have R_Sweeping : ErrKG l.prog w K mg base "Sweeping" "text" := ⟨C_Sweeping, fi_Sweeping, _, ac_Sweeping, PySem.W.mg_of X G ac_Sweeping, TO_Sweeping, in_Sweeping, ti_Sweeping, oki_Sweeping FI_Sweeping TO_Sweeping no_Sweeping, FI_Sweeping.binds fun _ _ _ _ _ _ us hl => match us, hl with | [_, _], _ => rfl⟩
  have TO_TooMany : OexG K C_TooMany := ⟨⟨_, _, _, _, _, _, _, _, _, _, _, _, _, _, _, _, _, _, _, xl_TooMany, PySem.F.excBase_OverflowError, beh_OverflowError⟩, sa_TooMany, eb_TooMany, ty_TooMany, kc_TooMany⟩
  have FI_TooMany := fun_mk (st := si_TooMany) li_TooMany ci_TooMany ki_TooMany
  have R_TooMany : ErrKG l.prog w K mg base "TooMany" "size" := ⟨C_TooMany, fi_TooMany, _, ac_TooMany, PySem.W.mg_of X G ac_TooMany, TO_TooMany, in_TooMany, ti_TooMany, oki_TooMany FI_TooMany TO_TooMany no_TooMany, FI_TooMany.binds fun _ _ _ _ _ _ us hl => match us, hl with | [_, _], _ => rfl⟩
  have C__law_take : Cal l.prog w K mg base "_law_take" 1 ["_law_pool_here", "_law_many"] (sp__law_take K) := ⟨_, _, ok__law_take F0 T, PySem.W.mg_of X G a0, F0.kp, F0.binds fun _ _ _ _ _ _ us hl => match us, hl with | [_, _], _ => rfl⟩
  have C__law_pool : Cal l.prog w K mg base "_law_pool" 1 ["_law_script", "_law_k"] (sp__law_pool K) := ⟨_, _, ok__law_pool F1 T, PySem.W.mg_of X G a1, F1.kp, F1.binds fun _ _ _ _ _ _ us hl => match us, hl with | [_, _], _ => rfl⟩
  have C__law_kinds : Cal l.prog w K mg base "_law_kinds" 1 ["_law_e"] (sp__law_kinds K) := ⟨_, _, ok__law_kinds F2 T, PySem.W.mg_of X G a2, F2.kp, F2.binds fun _ _ _ _ _ _ us hl => match us, hl with | [_], _ => rfl⟩
  have C__law_bases : Cal l.prog w K mg base "_law_bases" 1 ["_law_e"] (sp__law_bases K) := ⟨_, _, ok__law_bases F3 T, PySem.W.mg_of X G a3, F3.kp, F3.binds fun _ _ _ _ _ _ us hl => match us, hl with | [_], _ => rfl⟩
  have C__law_made : Cal l.prog w K mg base "_law_made" 3 ["_law_which", "_law_one", "_law_other"] (sp__law_made K) := ⟨_, _, ok__law_made F4 T R_Fault R_NoAddress R_NoBounds R_NoCompartment R_NoDeeds R_NoFields R_NoHands R_NoLine R_NoName R_NoNumber R_NoOffset R_NoRows R_NoRule R_NoSweep R_NoText R_NoWord R_Sweeping R_TooMany, PySem.W.mg_of X G a4, F4.kp, F4.binds fun _ _ _ _ _ _ us hl => match us, hl with | [_, _, _], _ => rfl⟩
  have C__law_values : Cal l.prog w K mg base "_law_values" 1 ["_law_which", "_law_e"] (sp__law_values K) := ⟨_, _, ok__law_values F5 T, PySem.W.mg_of X G a5, F5.kp, F5.binds fun _ _ _ _ _ _ us hl => match us, hl with | [_, _], _ => rfl⟩
  have C__law_due_bases : Cal l.prog w K mg base "_law_due_bases" 1 ["_law_which"] (sp__law_due_bases K) := ⟨_, _, ok__law_due_bases F6 T, PySem.W.mg_of X G a6, F6.kp, F6.binds fun _ _ _ _ _ _ us hl => match us, hl with | [_], _ => rfl⟩
  exact ok_law l7 c7 T C__law_take C__law_pool C__law_kinds C__law_bases C__law_made C__law_values C__law_due_bases e0 hS hlen sy
end My
open PySem PySem.W PyProof.Rows
set_option maxRecDepth 100000 in
set_option maxHeartbeats 0 in
theorem PySem.Challenge.cw_sealedreach_k05_refusals_apart_holds : PySem.Challenge.rw_sealedreach_k05_refusals_apart.Holds := by
  w_on; o_law; k_head; (case hw => w_witness2)
  k_fill
  refine My.walk_scrS (l := PySem.Challenge.rw_sealedreach_k05_refusals_apart) (n := 63) rfl (by decide) rfl (by decide +kernel) (fun w h Y => PySem.W.kIn_of Y) ?F
  case F =>
    intro w mg fa h KX G hmg
    refine' My.all_mk KX G hmg ?a0 ?l0 ?c0 ?k0 ?a1 ?l1 ?c1 ?k1 ?a2 ?l2 ?c2 ?k2 ?a3 ?l3 ?c3 ?k3 ?a4 ?l4 ?c4 ?k4 ?a5 ?l5 ?c5 ?k5 ?a6 ?l6 ?c6 ?k6 ?a7 ?l7 ?c7 ?k7 ?z_IndexError ?z_KeyError ?z_LookupError ?z_OverflowError ?z_RuntimeError ?z_ValueError ?z_abs ?z_enumerate ?z_int ?z_isinstance ?z_len ?z_max ?z_min ?z_range ?z_repr ?z_sum ?ac_Fault ?ac_NoAddress ?ac_NoBounds ?ac_NoCompartment ?ac_NoDeeds ?ac_NoFields ?ac_NoHands ?ac_NoLine ?ac_NoName ?ac_NoNumber ?ac_NoOffset ?ac_NoRows ?ac_NoRule ?ac_NoSweep ?ac_NoText ?ac_NoWord ?ac_ReachError ?ac_Sweeping ?ac_TooMany ?xl_Fault ?sa_Fault ?eb_Fault ?ty_Fault ?kc_Fault ?no_Fault ?in_Fault ?ti_Fault ?li_Fault ?ci_Fault ?ki_Fault ?xl_NoAddress ?sa_NoAddress ?eb_NoAddress ?ty_NoAddress ?kc_NoAddress ?no_NoAddress ?in_NoAddress ?ti_NoAddress ?li_NoAddress ?ci_NoAddress ?ki_NoAddress ?xl_NoBounds ?sa_NoBounds ?eb_NoBounds ?ty_NoBounds ?kc_NoBounds ?no_NoBounds ?in_NoBounds ?ti_NoBounds ?li_NoBounds ?ci_NoBounds ?ki_NoBounds ?xl_NoCompartment ?sa_NoCompartment ?eb_NoCompartment ?ty_NoCompartment ?kc_NoCompartment ?no_NoCompartment ?n2_NoCompartment ?in_NoCompartment ?ti_NoCompartment ?li_NoCompartment ?ci_NoCompartment ?ki_NoCompartment ?xl_NoDeeds ?sa_NoDeeds ?eb_NoDeeds ?ty_NoDeeds ?kc_NoDeeds ?no_NoDeeds ?in_NoDeeds ?ti_NoDeeds ?li_NoDeeds ?ci_NoDeeds ?ki_NoDeeds ?xl_NoFields ?sa_NoFields ?eb_NoFields ?ty_NoFields ?kc_NoFields ?no_NoFields ?in_NoFields ?ti_NoFields ?li_NoFields ?ci_NoFields ?ki_NoFields ?xl_NoHands ?sa_NoHands ?eb_NoHands ?ty_NoHands ?kc_NoHands ?no_NoHands ?in_NoHands ?ti_NoHands ?li_NoHands ?ci_NoHands ?ki_NoHands ?xl_NoLine ?sa_NoLine ?eb_NoLine ?ty_NoLine ?kc_NoLine ?no_NoLine ?in_NoLine ?ti_NoLine ?li_NoLine ?ci_NoLine ?ki_NoLine ?xl_NoName ?sa_NoName ?eb_NoName ?ty_NoName ?kc_NoName ?no_NoName ?in_NoName ?ti_NoName ?li_NoName ?ci_NoName ?ki_NoName ?xl_NoNumber ?sa_NoNumber ?eb_NoNumber ?ty_NoNumber ?kc_NoNumber ?no_NoNumber ?in_NoNumber ?ti_NoNumber ?li_NoNumber ?ci_NoNumber ?ki_NoNumber ?xl_NoOffset ?sa_NoOffset ?eb_NoOffset ?ty_NoOffset ?kc_NoOffset ?no_NoOffset ?in_NoOffset ?ti_NoOffset ?li_NoOffset ?ci_NoOffset ?ki_NoOffset ?xl_NoRows ?sa_NoRows ?eb_NoRows ?ty_NoRows ?kc_NoRows ?no_NoRows ?in_NoRows ?ti_NoRows ?li_NoRows ?ci_NoRows ?ki_NoRows ?xl_NoRule ?sa_NoRule ?eb_NoRule ?ty_NoRule ?kc_NoRule ?no_NoRule ?in_NoRule ?ti_NoRule ?li_NoRule ?ci_NoRule ?ki_NoRule ?xl_NoSweep ?sa_NoSweep ?eb_NoSweep ?ty_NoSweep ?kc_NoSweep ?no_NoSweep ?in_NoSweep ?ti_NoSweep ?li_NoSweep ?ci_NoSweep ?ki_NoSweep ?xl_NoText ?sa_NoText ?eb_NoText ?ty_NoText ?kc_NoText ?no_NoText ?in_NoText ?ti_NoText ?li_NoText ?ci_NoText ?ki_NoText ?xl_NoWord ?sa_NoWord ?eb_NoWord ?ty_NoWord ?kc_NoWord ?no_NoWord ?in_NoWord ?ti_NoWord ?li_NoWord ?ci_NoWord ?ki_NoWord ?xl_Sweeping ?sa_Sweeping ?eb_Sweeping ?ty_Sweeping ?kc_Sweeping ?no_Sweeping ?in_Sweeping ?ti_Sweeping ?li_Sweeping ?ci_Sweeping ?ki_Sweeping ?xl_TooMany ?sa_TooMany ?eb_TooMany ?ty_TooMany ?kc_TooMany ?no_TooMany ?in_TooMany ?ti_TooMany ?li_TooMany ?ci_TooMany ?ki_TooMany ?ecg_NoFields ?eck_NoFields ?ecs_NoFields ?ecd_NoFields ?eca_NoFields ?ecn_NoFields ?ect_NoFields ?ecm_NoFields ?ecg_NoBounds ?eck_NoBounds ?ecs_NoBounds ?ecd_NoBounds ?eca_NoBounds ?ecn_NoBounds ?ect_NoBounds ?ecm_NoBounds ?ecg_NoOffset ?eck_NoOffset ?ecs_NoOffset ?ecd_NoOffset ?eca_NoOffset ?ecn_NoOffset ?ect_NoOffset ?ecm_NoOffset ?ecg_NoAddress ?eck_NoAddress ?ecs_NoAddress ?ecd_NoAddress ?eca_NoAddress ?ecn_NoAddress ?ect_NoAddress ?ecm_NoAddress ?ecg_NoWord ?eck_NoWord ?ecs_NoWord ?ecd_NoWord ?eca_NoWord ?ecn_NoWord ?ect_NoWord ?ecm_NoWord ?ecg_NoHands ?eck_NoHands ?ecs_NoHands ?ecd_NoHands ?eca_NoHands ?ecn_NoHands ?ect_NoHands ?ecm_NoHands ?ecg_NoRule ?eck_NoRule ?ecs_NoRule ?ecd_NoRule ?eca_NoRule ?ecn_NoRule ?ect_NoRule ?ecm_NoRule ?ecg_NoNumber ?eck_NoNumber ?ecs_NoNumber ?ecd_NoNumber ?eca_NoNumber ?ecn_NoNumber ?ect_NoNumber ?ecm_NoNumber ?ecg_NoLine ?eck_NoLine ?ecs_NoLine ?ecd_NoLine ?eca_NoLine ?ecn_NoLine ?ect_NoLine ?ecm_NoLine ?ecg_Sweeping ?eck_Sweeping ?ecs_Sweeping ?ecd_Sweeping ?eca_Sweeping ?ecn_Sweeping ?ect_Sweeping ?ecm_Sweeping ?ecg_NoSweep ?eck_NoSweep ?ecs_NoSweep ?ecd_NoSweep ?eca_NoSweep ?ecn_NoSweep ?ect_NoSweep ?ecm_NoSweep ?ecg_Fault ?eck_Fault ?ecs_Fault ?ecd_Fault ?eca_Fault ?ecn_Fault ?ect_Fault ?ecm_Fault ?ecg_NoRows ?eck_NoRows ?ecs_NoRows ?ecd_NoRows ?eca_NoRows ?ecn_NoRows ?ect_NoRows ?ecm_NoRows ?ecg_NoText ?eck_NoText ?ecs_NoText ?ecd_NoText ?eca_NoText ?ecn_NoText ?ect_NoText ?ecm_NoText ?ecg_NoDeeds ?eck_NoDeeds ?ecs_NoDeeds ?ecd_NoDeeds ?eca_NoDeeds ?ecn_NoDeeds ?ect_NoDeeds ?ecm_NoDeeds ?ecg_NoName ?eck_NoName ?ecs_NoName ?ecd_NoName ?eca_NoName ?ecn_NoName ?ect_NoName ?ecm_NoName ?ecg_TooMany ?eck_TooMany ?ecs_TooMany ?ecd_TooMany ?eca_TooMany ?ecn_TooMany ?ect_TooMany ?ecm_TooMany ?ecg_NoCompartment ?eck_NoCompartment ?ecs_NoCompartment ?ecd_NoCompartment ?eca_NoCompartment ?ecn_NoCompartment ?ect_NoCompartment ?ecm_NoCompartment ?kt_NoFields_NoFields ?kt_NoFields_NoBounds ?kt_NoFields_NoOffset ?kt_NoFields_NoAddress ?kt_NoFields_NoWord ?kt_NoFields_NoHands ?kt_NoFields_NoRule ?kt_NoFields_NoNumber ?kt_NoFields_NoLine ?kt_NoFields_Sweeping ?kt_NoFields_NoSweep ?kt_NoFields_Fault ?kt_NoFields_NoRows ?kt_NoFields_NoText ?kt_NoFields_NoDeeds ?kt_NoFields_NoName ?kt_NoFields_TooMany ?kt_NoFields_NoCompartment ?kt_NoBounds_NoFields ?kt_NoBounds_NoBounds ?kt_NoBounds_NoOffset ?kt_NoBounds_NoAddress ?kt_NoBounds_NoWord ?kt_NoBounds_NoHands ?kt_NoBounds_NoRule ?kt_NoBounds_NoNumber ?kt_NoBounds_NoLine ?kt_NoBounds_Sweeping ?kt_NoBounds_NoSweep ?kt_NoBounds_Fault ?kt_NoBounds_NoRows ?kt_NoBounds_NoText ?kt_NoBounds_NoDeeds ?kt_NoBounds_NoName ?kt_NoBounds_TooMany ?kt_NoBounds_NoCompartment ?kt_NoOffset_NoFields ?kt_NoOffset_NoBounds ?kt_NoOffset_NoOffset ?kt_NoOffset_NoAddress ?kt_NoOffset_NoWord ?kt_NoOffset_NoHands ?kt_NoOffset_NoRule ?kt_NoOffset_NoNumber ?kt_NoOffset_NoLine ?kt_NoOffset_Sweeping ?kt_NoOffset_NoSweep ?kt_NoOffset_Fault ?kt_NoOffset_NoRows ?kt_NoOffset_NoText ?kt_NoOffset_NoDeeds ?kt_NoOffset_NoName ?kt_NoOffset_TooMany ?kt_NoOffset_NoCompartment ?kt_NoAddress_NoFields ?kt_NoAddress_NoBounds ?kt_NoAddress_NoOffset ?kt_NoAddress_NoAddress ?kt_NoAddress_NoWord ?kt_NoAddress_NoHands ?kt_NoAddress_NoRule ?kt_NoAddress_NoNumber ?kt_NoAddress_NoLine ?kt_NoAddress_Sweeping ?kt_NoAddress_NoSweep ?kt_NoAddress_Fault ?kt_NoAddress_NoRows ?kt_NoAddress_NoText ?kt_NoAddress_NoDeeds ?kt_NoAddress_NoName ?kt_NoAddress_TooMany ?kt_NoAddress_NoCompartment ?kt_NoWord_NoFields ?kt_NoWord_NoBounds ?kt_NoWord_NoOffset ?kt_NoWord_NoAddress ?kt_NoWord_NoWord ?kt_NoWord_NoHands ?kt_NoWord_NoRule ?kt_NoWord_NoNumber ?kt_NoWord_NoLine ?kt_NoWord_Sweeping ?kt_NoWord_NoSweep ?kt_NoWord_Fault ?kt_NoWord_NoRows ?kt_NoWord_NoText ?kt_NoWord_NoDeeds ?kt_NoWord_NoName ?kt_NoWord_TooMany ?kt_NoWord_NoCompartment ?kt_NoHands_NoFields ?kt_NoHands_NoBounds ?kt_NoHands_NoOffset ?kt_NoHands_NoAddress ?kt_NoHands_NoWord ?kt_NoHands_NoHands ?kt_NoHands_NoRule ?kt_NoHands_NoNumber ?kt_NoHands_NoLine ?kt_NoHands_Sweeping ?kt_NoHands_NoSweep ?kt_NoHands_Fault ?kt_NoHands_NoRows ?kt_NoHands_NoText ?kt_NoHands_NoDeeds ?kt_NoHands_NoName ?kt_NoHands_TooMany ?kt_NoHands_NoCompartment ?kt_NoRule_NoFields ?kt_NoRule_NoBounds ?kt_NoRule_NoOffset ?kt_NoRule_NoAddress ?kt_NoRule_NoWord ?kt_NoRule_NoHands ?kt_NoRule_NoRule ?kt_NoRule_NoNumber ?kt_NoRule_NoLine ?kt_NoRule_Sweeping ?kt_NoRule_NoSweep ?kt_NoRule_Fault ?kt_NoRule_NoRows ?kt_NoRule_NoText ?kt_NoRule_NoDeeds ?kt_NoRule_NoName ?kt_NoRule_TooMany ?kt_NoRule_NoCompartment ?kt_NoNumber_NoFields ?kt_NoNumber_NoBounds ?kt_NoNumber_NoOffset ?kt_NoNumber_NoAddress ?kt_NoNumber_NoWord ?kt_NoNumber_NoHands ?kt_NoNumber_NoRule ?kt_NoNumber_NoNumber ?kt_NoNumber_NoLine ?kt_NoNumber_Sweeping ?kt_NoNumber_NoSweep ?kt_NoNumber_Fault ?kt_NoNumber_NoRows ?kt_NoNumber_NoText ?kt_NoNumber_NoDeeds ?kt_NoNumber_NoName ?kt_NoNumber_TooMany ?kt_NoNumber_NoCompartment ?kt_NoLine_NoFields ?kt_NoLine_NoBounds ?kt_NoLine_NoOffset ?kt_NoLine_NoAddress ?kt_NoLine_NoWord ?kt_NoLine_NoHands ?kt_NoLine_NoRule ?kt_NoLine_NoNumber ?kt_NoLine_NoLine ?kt_NoLine_Sweeping ?kt_NoLine_NoSweep ?kt_NoLine_Fault ?kt_NoLine_NoRows ?kt_NoLine_NoText ?kt_NoLine_NoDeeds ?kt_NoLine_NoName ?kt_NoLine_TooMany ?kt_NoLine_NoCompartment ?kt_Sweeping_NoFields ?kt_Sweeping_NoBounds ?kt_Sweeping_NoOffset ?kt_Sweeping_NoAddress ?kt_Sweeping_NoWord ?kt_Sweeping_NoHands ?kt_Sweeping_NoRule ?kt_Sweeping_NoNumber ?kt_Sweeping_NoLine ?kt_Sweeping_Sweeping ?kt_Sweeping_NoSweep ?kt_Sweeping_Fault ?kt_Sweeping_NoRows ?kt_Sweeping_NoText ?kt_Sweeping_NoDeeds ?kt_Sweeping_NoName ?kt_Sweeping_TooMany ?kt_Sweeping_NoCompartment ?kt_NoSweep_NoFields ?kt_NoSweep_NoBounds ?kt_NoSweep_NoOffset ?kt_NoSweep_NoAddress ?kt_NoSweep_NoWord ?kt_NoSweep_NoHands ?kt_NoSweep_NoRule ?kt_NoSweep_NoNumber ?kt_NoSweep_NoLine ?kt_NoSweep_Sweeping ?kt_NoSweep_NoSweep ?kt_NoSweep_Fault ?kt_NoSweep_NoRows ?kt_NoSweep_NoText ?kt_NoSweep_NoDeeds ?kt_NoSweep_NoName ?kt_NoSweep_TooMany ?kt_NoSweep_NoCompartment ?kt_Fault_NoFields ?kt_Fault_NoBounds ?kt_Fault_NoOffset ?kt_Fault_NoAddress ?kt_Fault_NoWord ?kt_Fault_NoHands ?kt_Fault_NoRule ?kt_Fault_NoNumber ?kt_Fault_NoLine ?kt_Fault_Sweeping ?kt_Fault_NoSweep ?kt_Fault_Fault ?kt_Fault_NoRows ?kt_Fault_NoText ?kt_Fault_NoDeeds ?kt_Fault_NoName ?kt_Fault_TooMany ?kt_Fault_NoCompartment ?kt_NoRows_NoFields ?kt_NoRows_NoBounds ?kt_NoRows_NoOffset ?kt_NoRows_NoAddress ?kt_NoRows_NoWord ?kt_NoRows_NoHands ?kt_NoRows_NoRule ?kt_NoRows_NoNumber ?kt_NoRows_NoLine ?kt_NoRows_Sweeping ?kt_NoRows_NoSweep ?kt_NoRows_Fault ?kt_NoRows_NoRows ?kt_NoRows_NoText ?kt_NoRows_NoDeeds ?kt_NoRows_NoName ?kt_NoRows_TooMany ?kt_NoRows_NoCompartment ?kt_NoText_NoFields ?kt_NoText_NoBounds ?kt_NoText_NoOffset ?kt_NoText_NoAddress ?kt_NoText_NoWord ?kt_NoText_NoHands ?kt_NoText_NoRule ?kt_NoText_NoNumber ?kt_NoText_NoLine ?kt_NoText_Sweeping ?kt_NoText_NoSweep ?kt_NoText_Fault ?kt_NoText_NoRows ?kt_NoText_NoText ?kt_NoText_NoDeeds ?kt_NoText_NoName ?kt_NoText_TooMany ?kt_NoText_NoCompartment ?kt_NoDeeds_NoFields ?kt_NoDeeds_NoBounds ?kt_NoDeeds_NoOffset ?kt_NoDeeds_NoAddress ?kt_NoDeeds_NoWord ?kt_NoDeeds_NoHands ?kt_NoDeeds_NoRule ?kt_NoDeeds_NoNumber ?kt_NoDeeds_NoLine ?kt_NoDeeds_Sweeping ?kt_NoDeeds_NoSweep ?kt_NoDeeds_Fault ?kt_NoDeeds_NoRows ?kt_NoDeeds_NoText ?kt_NoDeeds_NoDeeds ?kt_NoDeeds_NoName ?kt_NoDeeds_TooMany ?kt_NoDeeds_NoCompartment ?kt_NoName_NoFields ?kt_NoName_NoBounds ?kt_NoName_NoOffset ?kt_NoName_NoAddress ?kt_NoName_NoWord ?kt_NoName_NoHands ?kt_NoName_NoRule ?kt_NoName_NoNumber ?kt_NoName_NoLine ?kt_NoName_Sweeping ?kt_NoName_NoSweep ?kt_NoName_Fault ?kt_NoName_NoRows ?kt_NoName_NoText ?kt_NoName_NoDeeds ?kt_NoName_NoName ?kt_NoName_TooMany ?kt_NoName_NoCompartment ?kt_TooMany_NoFields ?kt_TooMany_NoBounds ?kt_TooMany_NoOffset ?kt_TooMany_NoAddress ?kt_TooMany_NoWord ?kt_TooMany_NoHands ?kt_TooMany_NoRule ?kt_TooMany_NoNumber ?kt_TooMany_NoLine ?kt_TooMany_Sweeping ?kt_TooMany_NoSweep ?kt_TooMany_Fault ?kt_TooMany_NoRows ?kt_TooMany_NoText ?kt_TooMany_NoDeeds ?kt_TooMany_NoName ?kt_TooMany_TooMany ?kt_TooMany_NoCompartment ?kt_NoCompartment_NoFields ?kt_NoCompartment_NoBounds ?kt_NoCompartment_NoOffset ?kt_NoCompartment_NoAddress ?kt_NoCompartment_NoWord ?kt_NoCompartment_NoHands ?kt_NoCompartment_NoRule ?kt_NoCompartment_NoNumber ?kt_NoCompartment_NoLine ?kt_NoCompartment_Sweeping ?kt_NoCompartment_NoSweep ?kt_NoCompartment_Fault ?kt_NoCompartment_NoRows ?kt_NoCompartment_NoText ?kt_NoCompartment_NoDeeds ?kt_NoCompartment_NoName ?kt_NoCompartment_TooMany ?kt_NoCompartment_NoCompartment ?kt_NoFields_ReachError ?kt_NoFields_ValueError ?kt_NoFields_OverflowError ?kt_NoFields_KeyError ?kt_NoFields_LookupError ?kt_NoFields_RuntimeError ?kt_NoFields_IndexError ?kt_NoBounds_ReachError ?kt_NoBounds_ValueError ?kt_NoBounds_OverflowError ?kt_NoBounds_KeyError ?kt_NoBounds_LookupError ?kt_NoBounds_RuntimeError ?kt_NoBounds_IndexError ?kt_NoOffset_ReachError ?kt_NoOffset_ValueError ?kt_NoOffset_OverflowError ?kt_NoOffset_KeyError ?kt_NoOffset_LookupError ?kt_NoOffset_RuntimeError ?kt_NoOffset_IndexError ?kt_NoAddress_ReachError ?kt_NoAddress_ValueError ?kt_NoAddress_OverflowError ?kt_NoAddress_KeyError ?kt_NoAddress_LookupError ?kt_NoAddress_RuntimeError ?kt_NoAddress_IndexError ?kt_NoWord_ReachError ?kt_NoWord_ValueError ?kt_NoWord_OverflowError ?kt_NoWord_KeyError ?kt_NoWord_LookupError ?kt_NoWord_RuntimeError ?kt_NoWord_IndexError ?kt_NoHands_ReachError ?kt_NoHands_ValueError ?kt_NoHands_OverflowError ?kt_NoHands_KeyError ?kt_NoHands_LookupError ?kt_NoHands_RuntimeError ?kt_NoHands_IndexError ?kt_NoRule_ReachError ?kt_NoRule_ValueError ?kt_NoRule_OverflowError ?kt_NoRule_KeyError ?kt_NoRule_LookupError ?kt_NoRule_RuntimeError ?kt_NoRule_IndexError ?kt_NoNumber_ReachError ?kt_NoNumber_ValueError ?kt_NoNumber_OverflowError ?kt_NoNumber_KeyError ?kt_NoNumber_LookupError ?kt_NoNumber_RuntimeError ?kt_NoNumber_IndexError ?kt_NoLine_ReachError ?kt_NoLine_ValueError ?kt_NoLine_OverflowError ?kt_NoLine_KeyError ?kt_NoLine_LookupError ?kt_NoLine_RuntimeError ?kt_NoLine_IndexError ?kt_Sweeping_ReachError ?kt_Sweeping_ValueError ?kt_Sweeping_OverflowError ?kt_Sweeping_KeyError ?kt_Sweeping_LookupError ?kt_Sweeping_RuntimeError ?kt_Sweeping_IndexError ?kt_NoSweep_ReachError ?kt_NoSweep_ValueError ?kt_NoSweep_OverflowError ?kt_NoSweep_KeyError ?kt_NoSweep_LookupError ?kt_NoSweep_RuntimeError ?kt_NoSweep_IndexError ?kt_Fault_ReachError ?kt_Fault_ValueError ?kt_Fault_OverflowError ?kt_Fault_KeyError ?kt_Fault_LookupError ?kt_Fault_RuntimeError ?kt_Fault_IndexError ?kt_NoRows_ReachError ?kt_NoRows_ValueError ?kt_NoRows_OverflowError ?kt_NoRows_KeyError ?kt_NoRows_LookupError ?kt_NoRows_RuntimeError ?kt_NoRows_IndexError ?kt_NoText_ReachError ?kt_NoText_ValueError ?kt_NoText_OverflowError ?kt_NoText_KeyError ?kt_NoText_LookupError ?kt_NoText_RuntimeError ?kt_NoText_IndexError ?kt_NoDeeds_ReachError ?kt_NoDeeds_ValueError ?kt_NoDeeds_OverflowError ?kt_NoDeeds_KeyError ?kt_NoDeeds_LookupError ?kt_NoDeeds_RuntimeError ?kt_NoDeeds_IndexError ?kt_NoName_ReachError ?kt_NoName_ValueError ?kt_NoName_OverflowError ?kt_NoName_KeyError ?kt_NoName_LookupError ?kt_NoName_RuntimeError ?kt_NoName_IndexError ?kt_TooMany_ReachError ?kt_TooMany_ValueError ?kt_TooMany_OverflowError ?kt_TooMany_KeyError ?kt_TooMany_LookupError ?kt_TooMany_RuntimeError ?kt_TooMany_IndexError ?kt_NoCompartment_ReachError ?kt_NoCompartment_ValueError ?kt_NoCompartment_OverflowError ?kt_NoCompartment_KeyError ?kt_NoCompartment_LookupError ?kt_NoCompartment_RuntimeError ?kt_NoCompartment_IndexError ?ef_Fault_word ?ef_NoRows_number ?ef_NoText_number ?ef_NoDeeds_number ?ef_NoName_name ?ef_TooMany_size ?ef_NoCompartment_number ?ef_NoCompartment_part
    (case a0 => k_is)
    (case l0 => k_is)
    (case c0 => k_is)
    (case k0 => k_is)
    (case a1 => k_is)
    (case l1 => k_is)
    (case c1 => k_is)
    (case k1 => k_is)
    (case a2 => k_is)
    (case l2 => k_is)
    (case c2 => k_is)
    (case k2 => k_is)
    (case a3 => k_is)
    (case l3 => k_is)
    (case c3 => k_is)
    (case k3 => k_is)
    (case a4 => k_is)
    (case l4 => k_is)
    (case c4 => k_is)
    (case k4 => k_is)
    (case a5 => k_is)
    (case l5 => k_is)
    (case c5 => k_is)
    (case k5 => k_is)
    (case a6 => k_is)
    (case l6 => k_is)
    (case c6 => k_is)
    (case k6 => k_is)
    (case a7 => k_is)
    (case l7 => k_is)
    (case c7 => k_is)
    (case k7 => k_is)
    (case z_IndexError => k_is)
    (case z_KeyError => k_is)
    (case z_LookupError => k_is)
    (case z_OverflowError => k_is)
    (case z_RuntimeError => k_is)
    (case z_ValueError => k_is)
    (case z_abs => k_is)
    (case z_enumerate => k_is)
    (case z_int => k_is)
    (case z_isinstance => k_is)
    (case z_len => k_is)
    (case z_max => k_is)
    (case z_min => k_is)
    (case z_range => k_is)
    (case z_repr => k_is)
    (case z_sum => k_is)
    (case ac_Fault => k_is)
    (case ac_NoAddress => k_is)
    (case ac_NoBounds => k_is)
    (case ac_NoCompartment => k_is)
    (case ac_NoDeeds => k_is)
    (case ac_NoFields => k_is)
    (case ac_NoHands => k_is)
    (case ac_NoLine => k_is)
    (case ac_NoName => k_is)
    (case ac_NoNumber => k_is)
    (case ac_NoOffset => k_is)
    (case ac_NoRows => k_is)
    (case ac_NoRule => k_is)
    (case ac_NoSweep => k_is)
    (case ac_NoText => k_is)
    (case ac_NoWord => k_is)
    (case ac_ReachError => k_is)
    (case ac_Sweeping => k_is)
    (case ac_TooMany => k_is)
    (case xl_Fault => k_is)
    (case sa_Fault => k_is)
    (case eb_Fault => k_is)
    (case ty_Fault => k_is)
    (case kc_Fault => k_is)
    (case no_Fault => k_is)
    (case in_Fault => k_is)
    (case ti_Fault => k_is)
    (case li_Fault => k_is)
    (case ci_Fault => k_is)
    (case ki_Fault => k_is)
    (case xl_NoAddress => k_is)
    (case sa_NoAddress => k_is)
    (case eb_NoAddress => k_is)
    (case ty_NoAddress => k_is)
    (case kc_NoAddress => k_is)
    (case no_NoAddress => k_is)
    (case in_NoAddress => k_is)
    (case ti_NoAddress => k_is)
    (case li_NoAddress => k_is)
    (case ci_NoAddress => k_is)
    (case ki_NoAddress => k_is)
    (case xl_NoBounds => k_is)
    (case sa_NoBounds => k_is)
    (case eb_NoBounds => k_is)
    (case ty_NoBounds => k_is)
    (case kc_NoBounds => k_is)
    (case no_NoBounds => k_is)
    (case in_NoBounds => k_is)
    (case ti_NoBounds => k_is)
    (case li_NoBounds => k_is)
    (case ci_NoBounds => k_is)
    (case ki_NoBounds => k_is)
    (case xl_NoCompartment => k_is)
    (case sa_NoCompartment => k_is)
    (case eb_NoCompartment => k_is)
    (case ty_NoCompartment => k_is)
    (case kc_NoCompartment => k_is)
    (case no_NoCompartment => k_is)
    (case n2_NoCompartment => k_is)
    (case in_NoCompartment => k_is)
    (case ti_NoCompartment => k_is)
    (case li_NoCompartment => k_is)
    (case ci_NoCompartment => k_is)
    (case ki_NoCompartment => k_is)
    (case xl_NoDeeds => k_is)
    (case sa_NoDeeds => k_is)
    (case eb_NoDeeds => k_is)
    (case ty_NoDeeds => k_is)
    (case kc_NoDeeds => k_is)
    (case no_NoDeeds => k_is)
    (case in_NoDeeds => k_is)
    (case ti_NoDeeds => k_is)
    (case li_NoDeeds => k_is)
    (case ci_NoDeeds => k_is)
    (case ki_NoDeeds => k_is)
    (case xl_NoFields => k_is)
    (case sa_NoFields => k_is)
    (case eb_NoFields => k_is)
    (case ty_NoFields => k_is)
    (case kc_NoFields => k_is)
    (case no_NoFields => k_is)
    (case in_NoFields => k_is)
    (case ti_NoFields => k_is)
    (case li_NoFields => k_is)
    (case ci_NoFields => k_is)
    (case ki_NoFields => k_is)
    (case xl_NoHands => k_is)
    (case sa_NoHands => k_is)
    (case eb_NoHands => k_is)
    (case ty_NoHands => k_is)
    (case kc_NoHands => k_is)
    (case no_NoHands => k_is)
    (case in_NoHands => k_is)
    (case ti_NoHands => k_is)
    (case li_NoHands => k_is)
    (case ci_NoHands => k_is)
    (case ki_NoHands => k_is)
    (case xl_NoLine => k_is)
    (case sa_NoLine => k_is)
    (case eb_NoLine => k_is)
    (case ty_NoLine => k_is)
    (case kc_NoLine => k_is)
    (case no_NoLine => k_is)
    (case in_NoLine => k_is)
    (case ti_NoLine => k_is)
    (case li_NoLine => k_is)
    (case ci_NoLine => k_is)
    (case ki_NoLine => k_is)
    (case xl_NoName => k_is)
    (case sa_NoName => k_is)
    (case eb_NoName => k_is)
    (case ty_NoName => k_is)
    (case kc_NoName => k_is)
    (case no_NoName => k_is)
    (case in_NoName => k_is)
    (case ti_NoName => k_is)
    (case li_NoName => k_is)
    (case ci_NoName => k_is)
    (case ki_NoName => k_is)
    (case xl_NoNumber => k_is)
    (case sa_NoNumber => k_is)
    (case eb_NoNumber => k_is)
    (case ty_NoNumber => k_is)
    (case kc_NoNumber => k_is)
    (case no_NoNumber => k_is)
    (case in_NoNumber => k_is)
    (case ti_NoNumber => k_is)
    (case li_NoNumber => k_is)
    (case ci_NoNumber => k_is)
    (case ki_NoNumber => k_is)
    (case xl_NoOffset => k_is)
    (case sa_NoOffset => k_is)
    (case eb_NoOffset => k_is)
    (case ty_NoOffset => k_is)
    (case kc_NoOffset => k_is)
    (case no_NoOffset => k_is)
    (case in_NoOffset => k_is)
    (case ti_NoOffset => k_is)
    (case li_NoOffset => k_is)
    (case ci_NoOffset => k_is)
    (case ki_NoOffset => k_is)
    (case xl_NoRows => k_is)
    (case sa_NoRows => k_is)
    (case eb_NoRows => k_is)
    (case ty_NoRows => k_is)
    (case kc_NoRows => k_is)
    (case no_NoRows => k_is)
    (case in_NoRows => k_is)
    (case ti_NoRows => k_is)
    (case li_NoRows => k_is)
    (case ci_NoRows => k_is)
    (case ki_NoRows => k_is)
    (case xl_NoRule => k_is)
    (case sa_NoRule => k_is)
    (case eb_NoRule => k_is)
    (case ty_NoRule => k_is)
    (case kc_NoRule => k_is)
    (case no_NoRule => k_is)
    (case in_NoRule => k_is)
    (case ti_NoRule => k_is)
    (case li_NoRule => k_is)
    (case ci_NoRule => k_is)
    (case ki_NoRule => k_is)
    (case xl_NoSweep => k_is)
    (case sa_NoSweep => k_is)
    (case eb_NoSweep => k_is)
    (case ty_NoSweep => k_is)
    (case kc_NoSweep => k_is)
    (case no_NoSweep => k_is)
    (case in_NoSweep => k_is)
    (case ti_NoSweep => k_is)
    (case li_NoSweep => k_is)
    (case ci_NoSweep => k_is)
    (case ki_NoSweep => k_is)
    (case xl_NoText => k_is)
    (case sa_NoText => k_is)
    (case eb_NoText => k_is)
    (case ty_NoText => k_is)
    (case kc_NoText => k_is)
    (case no_NoText => k_is)
    (case in_NoText => k_is)
    (case ti_NoText => k_is)
    (case li_NoText => k_is)
    (case ci_NoText => k_is)
    (case ki_NoText => k_is)
    (case xl_NoWord => k_is)
    (case sa_NoWord => k_is)
    (case eb_NoWord => k_is)
    (case ty_NoWord => k_is)
    (case kc_NoWord => k_is)
    (case no_NoWord => k_is)
    (case in_NoWord => k_is)
    (case ti_NoWord => k_is)
    (case li_NoWord => k_is)
    (case ci_NoWord => k_is)
    (case ki_NoWord => k_is)
    (case xl_Sweeping => k_is)
    (case sa_Sweeping => k_is)
    (case eb_Sweeping => k_is)
    (case ty_Sweeping => k_is)
    (case kc_Sweeping => k_is)
    (case no_Sweeping => k_is)
    (case in_Sweeping => k_is)
    (case ti_Sweeping => k_is)
    (case li_Sweeping => k_is)
    (case ci_Sweeping => k_is)
    (case ki_Sweeping => k_is)
    (case xl_TooMany => k_is)
    (case sa_TooMany => k_is)
    (case eb_TooMany => k_is)
    (case ty_TooMany => k_is)
    (case kc_TooMany => k_is)
    (case no_TooMany => k_is)
    (case in_TooMany => k_is)
    (case ti_TooMany => k_is)
    (case li_TooMany => k_is)
    (case ci_TooMany => k_is)
    (case ki_TooMany => k_is)
    (case ecg_NoFields => k_is)
    (case eck_NoFields => k_is)
    (case ecs_NoFields => k_is)
    (case ecd_NoFields => k_is)
    (case eca_NoFields => k_is)
    (case ecn_NoFields => k_is)
    (case ect_NoFields => k_is)
    (case ecm_NoFields => k_is)
    (case ecg_NoBounds => k_is)
    (case eck_NoBounds => k_is)
    (case ecs_NoBounds => k_is)
    (case ecd_NoBounds => k_is)
    (case eca_NoBounds => k_is)
    (case ecn_NoBounds => k_is)
    (case ect_NoBounds => k_is)
    (case ecm_NoBounds => k_is)
    (case ecg_NoOffset => k_is)
    (case eck_NoOffset => k_is)
    (case ecs_NoOffset => k_is)
    (case ecd_NoOffset => k_is)
    (case eca_NoOffset => k_is)
    (case ecn_NoOffset => k_is)
    (case ect_NoOffset => k_is)
    (case ecm_NoOffset => k_is)
    (case ecg_NoAddress => k_is)
    (case eck_NoAddress => k_is)
    (case ecs_NoAddress => k_is)
    (case ecd_NoAddress => k_is)
    (case eca_NoAddress => k_is)
    (case ecn_NoAddress => k_is)
    (case ect_NoAddress => k_is)
    (case ecm_NoAddress => k_is)
    (case ecg_NoWord => k_is)
    (case eck_NoWord => k_is)
    (case ecs_NoWord => k_is)
    (case ecd_NoWord => k_is)
    (case eca_NoWord => k_is)
    (case ecn_NoWord => k_is)
    (case ect_NoWord => k_is)
    (case ecm_NoWord => k_is)
    (case ecg_NoHands => k_is)
    (case eck_NoHands => k_is)
    (case ecs_NoHands => k_is)
    (case ecd_NoHands => k_is)
    (case eca_NoHands => k_is)
    (case ecn_NoHands => k_is)
    (case ect_NoHands => k_is)
    (case ecm_NoHands => k_is)
    (case ecg_NoRule => k_is)
    (case eck_NoRule => k_is)
    (case ecs_NoRule => k_is)
    (case ecd_NoRule => k_is)
    (case eca_NoRule => k_is)
    (case ecn_NoRule => k_is)
    (case ect_NoRule => k_is)
    (case ecm_NoRule => k_is)
    (case ecg_NoNumber => k_is)
    (case eck_NoNumber => k_is)
    (case ecs_NoNumber => k_is)
    (case ecd_NoNumber => k_is)
    (case eca_NoNumber => k_is)
    (case ecn_NoNumber => k_is)
    (case ect_NoNumber => k_is)
    (case ecm_NoNumber => k_is)
    (case ecg_NoLine => k_is)
    (case eck_NoLine => k_is)
    (case ecs_NoLine => k_is)
    (case ecd_NoLine => k_is)
    (case eca_NoLine => k_is)
    (case ecn_NoLine => k_is)
    (case ect_NoLine => k_is)
    (case ecm_NoLine => k_is)
    (case ecg_Sweeping => k_is)
    (case eck_Sweeping => k_is)
    (case ecs_Sweeping => k_is)
    (case ecd_Sweeping => k_is)
    (case eca_Sweeping => k_is)
    (case ecn_Sweeping => k_is)
    (case ect_Sweeping => k_is)
    (case ecm_Sweeping => k_is)
    (case ecg_NoSweep => k_is)
    (case eck_NoSweep => k_is)
    (case ecs_NoSweep => k_is)
    (case ecd_NoSweep => k_is)
    (case eca_NoSweep => k_is)
    (case ecn_NoSweep => k_is)
    (case ect_NoSweep => k_is)
    (case ecm_NoSweep => k_is)
    (case ecg_Fault => k_is)
    (case eck_Fault => k_is)
    (case ecs_Fault => k_is)
    (case ecd_Fault => k_is)
    (case eca_Fault => k_is)
    (case ecn_Fault => k_is)
    (case ect_Fault => k_is)
    (case ecm_Fault => k_is)
    (case ecg_NoRows => k_is)
    (case eck_NoRows => k_is)
    (case ecs_NoRows => k_is)
    (case ecd_NoRows => k_is)
    (case eca_NoRows => k_is)
    (case ecn_NoRows => k_is)
    (case ect_NoRows => k_is)
    (case ecm_NoRows => k_is)
    (case ecg_NoText => k_is)
    (case eck_NoText => k_is)
    (case ecs_NoText => k_is)
    (case ecd_NoText => k_is)
    (case eca_NoText => k_is)
    (case ecn_NoText => k_is)
    (case ect_NoText => k_is)
    (case ecm_NoText => k_is)
    (case ecg_NoDeeds => k_is)
    (case eck_NoDeeds => k_is)
    (case ecs_NoDeeds => k_is)
    (case ecd_NoDeeds => k_is)
    (case eca_NoDeeds => k_is)
    (case ecn_NoDeeds => k_is)
    (case ect_NoDeeds => k_is)
    (case ecm_NoDeeds => k_is)
    (case ecg_NoName => k_is)
    (case eck_NoName => k_is)
    (case ecs_NoName => k_is)
    (case ecd_NoName => k_is)
    (case eca_NoName => k_is)
    (case ecn_NoName => k_is)
    (case ect_NoName => k_is)
    (case ecm_NoName => k_is)
    (case ecg_TooMany => k_is)
    (case eck_TooMany => k_is)
    (case ecs_TooMany => k_is)
    (case ecd_TooMany => k_is)
    (case eca_TooMany => k_is)
    (case ecn_TooMany => k_is)
    (case ect_TooMany => k_is)
    (case ecm_TooMany => k_is)
    (case ecg_NoCompartment => k_is)
    (case eck_NoCompartment => k_is)
    (case ecs_NoCompartment => k_is)
    (case ecd_NoCompartment => k_is)
    (case eca_NoCompartment => k_is)
    (case ecn_NoCompartment => k_is)
    (case ect_NoCompartment => k_is)
    (case ecm_NoCompartment => k_is)
    (case kt_NoFields_NoFields => kit_is)
    (case kt_NoFields_NoBounds => kit_is)
    (case kt_NoFields_NoOffset => kit_is)
    (case kt_NoFields_NoAddress => kit_is)
    (case kt_NoFields_NoWord => kit_is)
    (case kt_NoFields_NoHands => kit_is)
    (case kt_NoFields_NoRule => kit_is)
    (case kt_NoFields_NoNumber => kit_is)
    (case kt_NoFields_NoLine => kit_is)
    (case kt_NoFields_Sweeping => kit_is)
    (case kt_NoFields_NoSweep => kit_is)
    (case kt_NoFields_Fault => kit_is)
    (case kt_NoFields_NoRows => kit_is)
    (case kt_NoFields_NoText => kit_is)
    (case kt_NoFields_NoDeeds => kit_is)
    (case kt_NoFields_NoName => kit_is)
    (case kt_NoFields_TooMany => kit_is)
    (case kt_NoFields_NoCompartment => kit_is)
    (case kt_NoBounds_NoFields => kit_is)
    (case kt_NoBounds_NoBounds => kit_is)
    (case kt_NoBounds_NoOffset => kit_is)
    (case kt_NoBounds_NoAddress => kit_is)
    (case kt_NoBounds_NoWord => kit_is)
    (case kt_NoBounds_NoHands => kit_is)
    (case kt_NoBounds_NoRule => kit_is)
    (case kt_NoBounds_NoNumber => kit_is)
    (case kt_NoBounds_NoLine => kit_is)
    (case kt_NoBounds_Sweeping => kit_is)
    (case kt_NoBounds_NoSweep => kit_is)
    (case kt_NoBounds_Fault => kit_is)
    (case kt_NoBounds_NoRows => kit_is)
    (case kt_NoBounds_NoText => kit_is)
    (case kt_NoBounds_NoDeeds => kit_is)
    (case kt_NoBounds_NoName => kit_is)
    (case kt_NoBounds_TooMany => kit_is)
    (case kt_NoBounds_NoCompartment => kit_is)
    (case kt_NoOffset_NoFields => kit_is)
    (case kt_NoOffset_NoBounds => kit_is)
    (case kt_NoOffset_NoOffset => kit_is)
    (case kt_NoOffset_NoAddress => kit_is)
    (case kt_NoOffset_NoWord => kit_is)
    (case kt_NoOffset_NoHands => kit_is)
    (case kt_NoOffset_NoRule => kit_is)
    (case kt_NoOffset_NoNumber => kit_is)
    (case kt_NoOffset_NoLine => kit_is)
    (case kt_NoOffset_Sweeping => kit_is)
    (case kt_NoOffset_NoSweep => kit_is)
    (case kt_NoOffset_Fault => kit_is)
    (case kt_NoOffset_NoRows => kit_is)
    (case kt_NoOffset_NoText => kit_is)
    (case kt_NoOffset_NoDeeds => kit_is)
    (case kt_NoOffset_NoName => kit_is)
    (case kt_NoOffset_TooMany => kit_is)
    (case kt_NoOffset_NoCompartment => kit_is)
    (case kt_NoAddress_NoFields => kit_is)
    (case kt_NoAddress_NoBounds => kit_is)
    (case kt_NoAddress_NoOffset => kit_is)
    (case kt_NoAddress_NoAddress => kit_is)
    (case kt_NoAddress_NoWord => kit_is)
    (case kt_NoAddress_NoHands => kit_is)
    (case kt_NoAddress_NoRule => kit_is)
    (case kt_NoAddress_NoNumber => kit_is)
    (case kt_NoAddress_NoLine => kit_is)
    (case kt_NoAddress_Sweeping => kit_is)
    (case kt_NoAddress_NoSweep => kit_is)
    (case kt_NoAddress_Fault => kit_is)
    (case kt_NoAddress_NoRows => kit_is)
    (case kt_NoAddress_NoText => kit_is)
    (case kt_NoAddress_NoDeeds => kit_is)
    (case kt_NoAddress_NoName => kit_is)
    (case kt_NoAddress_TooMany => kit_is)
    (case kt_NoAddress_NoCompartment => kit_is)
    (case kt_NoWord_NoFields => kit_is)
    (case kt_NoWord_NoBounds => kit_is)
    (case kt_NoWord_NoOffset => kit_is)
    (case kt_NoWord_NoAddress => kit_is)
    (case kt_NoWord_NoWord => kit_is)
    (case kt_NoWord_NoHands => kit_is)
    (case kt_NoWord_NoRule => kit_is)
    (case kt_NoWord_NoNumber => kit_is)
    (case kt_NoWord_NoLine => kit_is)
    (case kt_NoWord_Sweeping => kit_is)
    (case kt_NoWord_NoSweep => kit_is)
    (case kt_NoWord_Fault => kit_is)
    (case kt_NoWord_NoRows => kit_is)
    (case kt_NoWord_NoText => kit_is)
    (case kt_NoWord_NoDeeds => kit_is)
    (case kt_NoWord_NoName => kit_is)
    (case kt_NoWord_TooMany => kit_is)
    (case kt_NoWord_NoCompartment => kit_is)
    (case kt_NoHands_NoFields => kit_is)
    (case kt_NoHands_NoBounds => kit_is)
    (case kt_NoHands_NoOffset => kit_is)
    (case kt_NoHands_NoAddress => kit_is)
    (case kt_NoHands_NoWord => kit_is)
    (case kt_NoHands_NoHands => kit_is)
    (case kt_NoHands_NoRule => kit_is)
    (case kt_NoHands_NoNumber => kit_is)
    (case kt_NoHands_NoLine => kit_is)
    (case kt_NoHands_Sweeping => kit_is)
    (case kt_NoHands_NoSweep => kit_is)
    (case kt_NoHands_Fault => kit_is)
    (case kt_NoHands_NoRows => kit_is)
    (case kt_NoHands_NoText => kit_is)
    (case kt_NoHands_NoDeeds => kit_is)
    (case kt_NoHands_NoName => kit_is)
    (case kt_NoHands_TooMany => kit_is)
    (case kt_NoHands_NoCompartment => kit_is)
    (case kt_NoRule_NoFields => kit_is)
    (case kt_NoRule_NoBounds => kit_is)
    (case kt_NoRule_NoOffset => kit_is)
    (case kt_NoRule_NoAddress => kit_is)
    (case kt_NoRule_NoWord => kit_is)
    (case kt_NoRule_NoHands => kit_is)
    (case kt_NoRule_NoRule => kit_is)
    (case kt_NoRule_NoNumber => kit_is)
    (case kt_NoRule_NoLine => kit_is)
    (case kt_NoRule_Sweeping => kit_is)
    (case kt_NoRule_NoSweep => kit_is)
    (case kt_NoRule_Fault => kit_is)
    (case kt_NoRule_NoRows => kit_is)
    (case kt_NoRule_NoText => kit_is)
    (case kt_NoRule_NoDeeds => kit_is)
    (case kt_NoRule_NoName => kit_is)
    (case kt_NoRule_TooMany => kit_is)
    (case kt_NoRule_NoCompartment => kit_is)
    (case kt_NoNumber_NoFields => kit_is)
    (case kt_NoNumber_NoBounds => kit_is)
    (case kt_NoNumber_NoOffset => kit_is)
    (case kt_NoNumber_NoAddress => kit_is)
    (case kt_NoNumber_NoWord => kit_is)
    (case kt_NoNumber_NoHands => kit_is)
    (case kt_NoNumber_NoRule => kit_is)
    (case kt_NoNumber_NoNumber => kit_is)
    (case kt_NoNumber_NoLine => kit_is)
    (case kt_NoNumber_Sweeping => kit_is)
    (case kt_NoNumber_NoSweep => kit_is)
    (case kt_NoNumber_Fault => kit_is)
    (case kt_NoNumber_NoRows => kit_is)
    (case kt_NoNumber_NoText => kit_is)
    (case kt_NoNumber_NoDeeds => kit_is)
    (case kt_NoNumber_NoName => kit_is)
    (case kt_NoNumber_TooMany => kit_is)
    (case kt_NoNumber_NoCompartment => kit_is)
    (case kt_NoLine_NoFields => kit_is)
    (case kt_NoLine_NoBounds => kit_is)
    (case kt_NoLine_NoOffset => kit_is)
    (case kt_NoLine_NoAddress => kit_is)
    (case kt_NoLine_NoWord => kit_is)
    (case kt_NoLine_NoHands => kit_is)
    (case kt_NoLine_NoRule => kit_is)
    (case kt_NoLine_NoNumber => kit_is)
    (case kt_NoLine_NoLine => kit_is)
    (case kt_NoLine_Sweeping => kit_is)
    (case kt_NoLine_NoSweep => kit_is)
    (case kt_NoLine_Fault => kit_is)
    (case kt_NoLine_NoRows => kit_is)
    (case kt_NoLine_NoText => kit_is)
    (case kt_NoLine_NoDeeds => kit_is)
    (case kt_NoLine_NoName => kit_is)
    (case kt_NoLine_TooMany => kit_is)
    (case kt_NoLine_NoCompartment => kit_is)
    (case kt_Sweeping_NoFields => kit_is)
    (case kt_Sweeping_NoBounds => kit_is)
    (case kt_Sweeping_NoOffset => kit_is)
    (case kt_Sweeping_NoAddress => kit_is)
    (case kt_Sweeping_NoWord => kit_is)
    (case kt_Sweeping_NoHands => kit_is)
    (case kt_Sweeping_NoRule => kit_is)
    (case kt_Sweeping_NoNumber => kit_is)
    (case kt_Sweeping_NoLine => kit_is)
    (case kt_Sweeping_Sweeping => kit_is)
    (case kt_Sweeping_NoSweep => kit_is)
    (case kt_Sweeping_Fault => kit_is)
    (case kt_Sweeping_NoRows => kit_is)
    (case kt_Sweeping_NoText => kit_is)
    (case kt_Sweeping_NoDeeds => kit_is)
    (case kt_Sweeping_NoName => kit_is)
    (case kt_Sweeping_TooMany => kit_is)
    (case kt_Sweeping_NoCompartment => kit_is)
    (case kt_NoSweep_NoFields => kit_is)
    (case kt_NoSweep_NoBounds => kit_is)
    (case kt_NoSweep_NoOffset => kit_is)
    (case kt_NoSweep_NoAddress => kit_is)
    (case kt_NoSweep_NoWord => kit_is)
    (case kt_NoSweep_NoHands => kit_is)
    (case kt_NoSweep_NoRule => kit_is)
    (case kt_NoSweep_NoNumber => kit_is)
    (case kt_NoSweep_NoLine => kit_is)
    (case kt_NoSweep_Sweeping => kit_is)
    (case kt_NoSweep_NoSweep => kit_is)
    (case kt_NoSweep_Fault => kit_is)
    (case kt_NoSweep_NoRows => kit_is)
    (case kt_NoSweep_NoText => kit_is)
    (case kt_NoSweep_NoDeeds => kit_is)
    (case kt_NoSweep_NoName => kit_is)
    (case kt_NoSweep_TooMany => kit_is)
    (case kt_NoSweep_NoCompartment => kit_is)
    (case kt_Fault_NoFields => kit_is)
    (case kt_Fault_NoBounds => kit_is)
    (case kt_Fault_NoOffset => kit_is)
    (case kt_Fault_NoAddress => kit_is)
    (case kt_Fault_NoWord => kit_is)
    (case kt_Fault_NoHands => kit_is)
    (case kt_Fault_NoRule => kit_is)
    (case kt_Fault_NoNumber => kit_is)
    (case kt_Fault_NoLine => kit_is)
    (case kt_Fault_Sweeping => kit_is)
    (case kt_Fault_NoSweep => kit_is)
    (case kt_Fault_Fault => kit_is)
    (case kt_Fault_NoRows => kit_is)
    (case kt_Fault_NoText => kit_is)
    (case kt_Fault_NoDeeds => kit_is)
    (case kt_Fault_NoName => kit_is)
    (case kt_Fault_TooMany => kit_is)
    (case kt_Fault_NoCompartment => kit_is)
    (case kt_NoRows_NoFields => kit_is)
    (case kt_NoRows_NoBounds => kit_is)
    (case kt_NoRows_NoOffset => kit_is)
    (case kt_NoRows_NoAddress => kit_is)
    (case kt_NoRows_NoWord => kit_is)
    (case kt_NoRows_NoHands => kit_is)
    (case kt_NoRows_NoRule => kit_is)
    (case kt_NoRows_NoNumber => kit_is)
    (case kt_NoRows_NoLine => kit_is)
    (case kt_NoRows_Sweeping => kit_is)
    (case kt_NoRows_NoSweep => kit_is)
    (case kt_NoRows_Fault => kit_is)
    (case kt_NoRows_NoRows => kit_is)
    (case kt_NoRows_NoText => kit_is)
    (case kt_NoRows_NoDeeds => kit_is)
    (case kt_NoRows_NoName => kit_is)
    (case kt_NoRows_TooMany => kit_is)
    (case kt_NoRows_NoCompartment => kit_is)
    (case kt_NoText_NoFields => kit_is)
    (case kt_NoText_NoBounds => kit_is)
    (case kt_NoText_NoOffset => kit_is)
    (case kt_NoText_NoAddress => kit_is)
    (case kt_NoText_NoWord => kit_is)
    (case kt_NoText_NoHands => kit_is)
    (case kt_NoText_NoRule => kit_is)
    (case kt_NoText_NoNumber => kit_is)
    (case kt_NoText_NoLine => kit_is)
    (case kt_NoText_Sweeping => kit_is)
    (case kt_NoText_NoSweep => kit_is)
    (case kt_NoText_Fault => kit_is)
    (case kt_NoText_NoRows => kit_is)
    (case kt_NoText_NoText => kit_is)
    (case kt_NoText_NoDeeds => kit_is)
    (case kt_NoText_NoName => kit_is)
    (case kt_NoText_TooMany => kit_is)
    (case kt_NoText_NoCompartment => kit_is)
    (case kt_NoDeeds_NoFields => kit_is)
    (case kt_NoDeeds_NoBounds => kit_is)
    (case kt_NoDeeds_NoOffset => kit_is)
    (case kt_NoDeeds_NoAddress => kit_is)
    (case kt_NoDeeds_NoWord => kit_is)
    (case kt_NoDeeds_NoHands => kit_is)
    (case kt_NoDeeds_NoRule => kit_is)
    (case kt_NoDeeds_NoNumber => kit_is)
    (case kt_NoDeeds_NoLine => kit_is)
    (case kt_NoDeeds_Sweeping => kit_is)
    (case kt_NoDeeds_NoSweep => kit_is)
    (case kt_NoDeeds_Fault => kit_is)
    (case kt_NoDeeds_NoRows => kit_is)
    (case kt_NoDeeds_NoText => kit_is)
    (case kt_NoDeeds_NoDeeds => kit_is)
    (case kt_NoDeeds_NoName => kit_is)
    (case kt_NoDeeds_TooMany => kit_is)
    (case kt_NoDeeds_NoCompartment => kit_is)
    (case kt_NoName_NoFields => kit_is)
    (case kt_NoName_NoBounds => kit_is)
    (case kt_NoName_NoOffset => kit_is)
    (case kt_NoName_NoAddress => kit_is)
    (case kt_NoName_NoWord => kit_is)
    (case kt_NoName_NoHands => kit_is)
    (case kt_NoName_NoRule => kit_is)
    (case kt_NoName_NoNumber => kit_is)
    (case kt_NoName_NoLine => kit_is)
    (case kt_NoName_Sweeping => kit_is)
    (case kt_NoName_NoSweep => kit_is)
    (case kt_NoName_Fault => kit_is)
    (case kt_NoName_NoRows => kit_is)
    (case kt_NoName_NoText => kit_is)
    (case kt_NoName_NoDeeds => kit_is)
    (case kt_NoName_NoName => kit_is)
    (case kt_NoName_TooMany => kit_is)
    (case kt_NoName_NoCompartment => kit_is)
    (case kt_TooMany_NoFields => kit_is)
    (case kt_TooMany_NoBounds => kit_is)
    (case kt_TooMany_NoOffset => kit_is)
    (case kt_TooMany_NoAddress => kit_is)
    (case kt_TooMany_NoWord => kit_is)
    (case kt_TooMany_NoHands => kit_is)
    (case kt_TooMany_NoRule => kit_is)
    (case kt_TooMany_NoNumber => kit_is)
    (case kt_TooMany_NoLine => kit_is)
    (case kt_TooMany_Sweeping => kit_is)
    (case kt_TooMany_NoSweep => kit_is)
    (case kt_TooMany_Fault => kit_is)
    (case kt_TooMany_NoRows => kit_is)
    (case kt_TooMany_NoText => kit_is)
    (case kt_TooMany_NoDeeds => kit_is)
    (case kt_TooMany_NoName => kit_is)
    (case kt_TooMany_TooMany => kit_is)
    (case kt_TooMany_NoCompartment => kit_is)
    (case kt_NoCompartment_NoFields => kit_is)
    (case kt_NoCompartment_NoBounds => kit_is)
    (case kt_NoCompartment_NoOffset => kit_is)
    (case kt_NoCompartment_NoAddress => kit_is)
    (case kt_NoCompartment_NoWord => kit_is)
    (case kt_NoCompartment_NoHands => kit_is)
    (case kt_NoCompartment_NoRule => kit_is)
    (case kt_NoCompartment_NoNumber => kit_is)
    (case kt_NoCompartment_NoLine => kit_is)
    (case kt_NoCompartment_Sweeping => kit_is)
    (case kt_NoCompartment_NoSweep => kit_is)
    (case kt_NoCompartment_Fault => kit_is)
    (case kt_NoCompartment_NoRows => kit_is)
    (case kt_NoCompartment_NoText => kit_is)
    (case kt_NoCompartment_NoDeeds => kit_is)
    (case kt_NoCompartment_NoName => kit_is)
    (case kt_NoCompartment_TooMany => kit_is)
    (case kt_NoCompartment_NoCompartment => kit_is)
    (case kt_NoFields_ReachError => kit_is)
    (case kt_NoFields_ValueError => kit_is)
    (case kt_NoFields_OverflowError => kit_is)
    (case kt_NoFields_KeyError => kit_is)
    (case kt_NoFields_LookupError => kit_is)
    (case kt_NoFields_RuntimeError => kit_is)
    (case kt_NoFields_IndexError => kit_is)
    (case kt_NoBounds_ReachError => kit_is)
    (case kt_NoBounds_ValueError => kit_is)
    (case kt_NoBounds_OverflowError => kit_is)
    (case kt_NoBounds_KeyError => kit_is)
    (case kt_NoBounds_LookupError => kit_is)
    (case kt_NoBounds_RuntimeError => kit_is)
    (case kt_NoBounds_IndexError => kit_is)
    (case kt_NoOffset_ReachError => kit_is)
    (case kt_NoOffset_ValueError => kit_is)
    (case kt_NoOffset_OverflowError => kit_is)
    (case kt_NoOffset_KeyError => kit_is)
    (case kt_NoOffset_LookupError => kit_is)
    (case kt_NoOffset_RuntimeError => kit_is)
    (case kt_NoOffset_IndexError => kit_is)
    (case kt_NoAddress_ReachError => kit_is)
    (case kt_NoAddress_ValueError => kit_is)
    (case kt_NoAddress_OverflowError => kit_is)
    (case kt_NoAddress_KeyError => kit_is)
    (case kt_NoAddress_LookupError => kit_is)
    (case kt_NoAddress_RuntimeError => kit_is)
    (case kt_NoAddress_IndexError => kit_is)
    (case kt_NoWord_ReachError => kit_is)
    (case kt_NoWord_ValueError => kit_is)
    (case kt_NoWord_OverflowError => kit_is)
    (case kt_NoWord_KeyError => kit_is)
    (case kt_NoWord_LookupError => kit_is)
    (case kt_NoWord_RuntimeError => kit_is)
    (case kt_NoWord_IndexError => kit_is)
    (case kt_NoHands_ReachError => kit_is)
    (case kt_NoHands_ValueError => kit_is)
    (case kt_NoHands_OverflowError => kit_is)
    (case kt_NoHands_KeyError => kit_is)
    (case kt_NoHands_LookupError => kit_is)
    (case kt_NoHands_RuntimeError => kit_is)
    (case kt_NoHands_IndexError => kit_is)
    (case kt_NoRule_ReachError => kit_is)
    (case kt_NoRule_ValueError => kit_is)
    (case kt_NoRule_OverflowError => kit_is)
    (case kt_NoRule_KeyError => kit_is)
    (case kt_NoRule_LookupError => kit_is)
    (case kt_NoRule_RuntimeError => kit_is)
    (case kt_NoRule_IndexError => kit_is)
    (case kt_NoNumber_ReachError => kit_is)
    (case kt_NoNumber_ValueError => kit_is)
    (case kt_NoNumber_OverflowError => kit_is)
    (case kt_NoNumber_KeyError => kit_is)
    (case kt_NoNumber_LookupError => kit_is)
    (case kt_NoNumber_RuntimeError => kit_is)
    (case kt_NoNumber_IndexError => kit_is)
    (case kt_NoLine_ReachError => kit_is)
    (case kt_NoLine_ValueError => kit_is)
    (case kt_NoLine_OverflowError => kit_is)
    (case kt_NoLine_KeyError => kit_is)
    (case kt_NoLine_LookupError => kit_is)
    (case kt_NoLine_RuntimeError => kit_is)
    (case kt_NoLine_IndexError => kit_is)
    (case kt_Sweeping_ReachError => kit_is)
    (case kt_Sweeping_ValueError => kit_is)
    (case kt_Sweeping_OverflowError => kit_is)
    (case kt_Sweeping_KeyError => kit_is)
    (case kt_Sweeping_LookupError => kit_is)
    (case kt_Sweeping_RuntimeError => kit_is)
    (case kt_Sweeping_IndexError => kit_is)
    (case kt_NoSweep_ReachError => kit_is)
    (case kt_NoSweep_ValueError => kit_is)
    (case kt_NoSweep_OverflowError => kit_is)
    (case kt_NoSweep_KeyError => kit_is)
    (case kt_NoSweep_LookupError => kit_is)
    (case kt_NoSweep_RuntimeError => kit_is)
    (case kt_NoSweep_IndexError => kit_is)
    (case kt_Fault_ReachError => kit_is)
    (case kt_Fault_ValueError => kit_is)
    (case kt_Fault_OverflowError => kit_is)
    (case kt_Fault_KeyError => kit_is)
    (case kt_Fault_LookupError => kit_is)
    (case kt_Fault_RuntimeError => kit_is)
    (case kt_Fault_IndexError => kit_is)
    (case kt_NoRows_ReachError => kit_is)
    (case kt_NoRows_ValueError => kit_is)
    (case kt_NoRows_OverflowError => kit_is)
    (case kt_NoRows_KeyError => kit_is)
    (case kt_NoRows_LookupError => kit_is)
    (case kt_NoRows_RuntimeError => kit_is)
    (case kt_NoRows_IndexError => kit_is)
    (case kt_NoText_ReachError => kit_is)
    (case kt_NoText_ValueError => kit_is)
    (case kt_NoText_OverflowError => kit_is)
    (case kt_NoText_KeyError => kit_is)
    (case kt_NoText_LookupError => kit_is)
    (case kt_NoText_RuntimeError => kit_is)
    (case kt_NoText_IndexError => kit_is)
    (case kt_NoDeeds_ReachError => kit_is)
    (case kt_NoDeeds_ValueError => kit_is)
    (case kt_NoDeeds_OverflowError => kit_is)
    (case kt_NoDeeds_KeyError => kit_is)
    (case kt_NoDeeds_LookupError => kit_is)
    (case kt_NoDeeds_RuntimeError => kit_is)
    (case kt_NoDeeds_IndexError => kit_is)
    (case kt_NoName_ReachError => kit_is)
    (case kt_NoName_ValueError => kit_is)
    (case kt_NoName_OverflowError => kit_is)
    (case kt_NoName_KeyError => kit_is)
    (case kt_NoName_LookupError => kit_is)
    (case kt_NoName_RuntimeError => kit_is)
    (case kt_NoName_IndexError => kit_is)
    (case kt_TooMany_ReachError => kit_is)
    (case kt_TooMany_ValueError => kit_is)
    (case kt_TooMany_OverflowError => kit_is)
    (case kt_TooMany_KeyError => kit_is)
    (case kt_TooMany_LookupError => kit_is)
    (case kt_TooMany_RuntimeError => kit_is)
    (case kt_TooMany_IndexError => kit_is)
    (case kt_NoCompartment_ReachError => kit_is)
    (case kt_NoCompartment_ValueError => kit_is)
    (case kt_NoCompartment_OverflowError => kit_is)
    (case kt_NoCompartment_KeyError => kit_is)
    (case kt_NoCompartment_LookupError => kit_is)
    (case kt_NoCompartment_RuntimeError => kit_is)
    (case kt_NoCompartment_IndexError => kit_is)
    (case ef_Fault_word => k_is)
    (case ef_NoRows_number => k_is)
    (case ef_NoText_number => k_is)
    (case ef_NoDeeds_number => k_is)
    (case ef_NoName_name => k_is)
    (case ef_TooMany_size => k_is)
    (case ef_NoCompartment_number => k_is)
    (case ef_NoCompartment_part => k_is)
