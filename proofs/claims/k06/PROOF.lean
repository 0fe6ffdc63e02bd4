import PyProof.Rows.All
import Wide.All
import OpenK.AllK
import Wide.FinOn
import HandS.ForMost
import HandS.IsInst
import HandS.Conv
import HandS.TupLe
import HandS.Walk
import PySem.Challenge.RW_sealedreach_k06_least_bounds_told
set_option Elab.async false
set_option linter.all false
set_option maxRecDepth 100000
set_option maxHeartbeats 4000000
namespace My
open PySem PySem.Spec PyProof.Rows L2
/-! ### calls of a def by its name alone -/
structure Cal (P : Program) (w : World) (K : PySem.W.Frag) (mg : Str → Option Value) (base : Heap) (x : Str) (k : Nat) (ps : List Str) (sp : Sp) : Prop where
  ex : ∃ (f : Addr) (fd : FuncData), FnOk P w K mg base CX0 k f fd ps sp ∧ mg x = some (.ref f) ∧ PySem.W.keepIn K (.ref f) = true ∧ Binds K fd ps []
theorem pe_cal {X : Cx} {x : Str} {k : Nat} {ps : List Str} {sp : Sp} {e : Expr} {es : List Expr} {t : TA} {p pos : Pos} (C : Cal X.prog X.w X.K X.mg X.base x k ps sp) (hr : Room k X.A)
    (ha : PA X (e :: es) t) (hg : Gl X x := by rfl) (hdb : (x == ("__debug__" : Str)) = false := by decide) (he : starEach (e :: es) X.env = (false, eval e X.env) :: starEach es X.env := by rfl) (hpl : (backTo pos (starEach es X.env)).any (·.1) = false := by rfl) :
    PE X (.Call (.Name x p) (e :: es) [] pos) (tCall sp [] E0 t) := by
  obtain ⟨f, fd, G, g, kp, b⟩ := C.ex
  exact pe_call G hr hg g kp b .nil pass0 ha hdb he hpl
/-! ### tests -/
theorem ifnd {p : Prop} [Decidable p] {A B : Prop} (h1 : ¬ p → A) (h2 : p → B) : if (!decide p) = true then A else B := by
  by_cases h : p
  · rw [decide_eq_true h]; exact h2 h
  · rw [decide_eq_false h]; exact h1 h
theorem ifnb {c : Bool} {A B : Prop} (h1 : c = false → A) (h2 : c = true → B) : if (!c) = true then A else B := by
  cases c with
  | true => exact h2 rfl
  | false => exact h1 rfl
theorem ifd {p : Prop} [Decidable p] {A B : Prop} (h1 : p → A) (h2 : ¬ p → B) : if decide p = true then A else B := by
  by_cases h : p
  · rw [if_pos (decide_eq_true h)]; exact h1 h
  · rw [decide_eq_false h, if_neg Bool.false_ne_true]; exact h2 h
theorem ifP {p : Prop} [Decidable p] {A B : Prop} (h : p) (h1 : A) : if decide p = true then A else B := by
  rw [if_pos (decide_eq_true h)]; exact h1
theorem ifN {p : Prop} [Decidable p] {A B : Prop} (h : ¬ p) (h1 : B) : if decide p = true then A else B := by
  rw [decide_eq_false h, if_neg Bool.false_ne_true]; exact h1
theorem ifb {c : Bool} {A B : Prop} (h1 : c = true → A) (h2 : c = false → B) : if c = true then A else B := by
  cases c with
  | true => rw [if_pos rfl]; exact h1 rfl
  | false => rw [if_neg Bool.false_ne_true]; exact h2 rfl
theorem ifbT {c : Bool} {A B : Prop} (h : c = true) (h1 : A) : if c = true then A else B := by rw [if_pos h]; exact h1
theorem ifbF {c : Bool} {A B : Prop} (h : c = false) (h1 : B) : if c = true then A else B := by rw [h, if_neg Bool.false_ne_true]; exact h1
/-! ### heaps -/
theorem viaS {H H' : Hp} {b : Addr} {o : HO} (s : Same H H') (h : H b = some o) : H' b = some o := s b o h
theorem same_new {H : Hp} {p : Addr} {o : HO} (h : H p = none) : Same H (upd H p o) := fun b x e => by
  rw [upd_ne (ne_of_none e h)]; exact e
/-- all but what stands at a is as it was -/
def But (a : Addr) (H H' : Hp) : Prop := ∀ b o, b ≠ a → H b = some o → H' b = some o
theorem viaB {H H' : Hp} {a b : Addr} {o : HO} (s : But a H H') (n : b ≠ a) (h : H b = some o) : H' b = some o := s b o n h
theorem But.refl (a : Addr) (H : Hp) : But a H H := fun _ _ _ h => h
theorem But.of {a : Addr} {H H' : Hp} (s : Same H H') : But a H H' := fun b o _ h => s b o h
theorem But.trans {a : Addr} {H H1 H2 : Hp} (s : But a H H1) (t : But a H1 H2) : But a H H2 := fun b o n h => t b o n (s b o n h)
theorem But.upd {a : Addr} {H H' : Hp} {o : HO} (s : But a H H') : But a H (upd H' a o) := fun b x n h => by
  rw [upd_ne n]; exact s b x n h
theorem But.new {a p : Addr} {H H' : Hp} {o : HO} (s : But a H H') (n : H' p = none) : But a H (L2.upd H' p o) := fun b x nb h => by
  have e := s b x nb h
  rw [upd_ne (ne_of_none e n)]; exact e
theorem sameN {p : Addr} {H H' : Hp} {o : HO} (s : Same H H') (n : H' p = none) : Same H (L2.upd H' p o) := fun b x h => by
  have e := s b x h
  rw [upd_ne (ne_of_none e n)]; exact e
theorem updK {H : Hp} {a b : Addr} {o u : HO} (n : b ≠ a) (h : H b = some u) : L2.upd H a o b = some u := by rw [upd_ne n]; exact h
/-- the pool of a law: a list of two numbers, the second small -/
def Pool (H : Hp) (a : Addr) (x y : Int) : Prop := H a = some (.lst [.int x, .int y]) ∧ 0 ≤ x ∧ 0 ≤ y ∧ y < 2147483647

local macro_rules | `(tactic| walk_at "ne") => `(tactic| first | assumption | (apply Ne.symm; assumption) | (refine ne_of_none ?_ (by assumption); walk_at "at") | (apply Ne.symm; refine ne_of_none ?_ (by assumption); walk_at "at"))
local macro_rules | `(tactic| walk_at "at") => `(tactic| first | assumption | exact upd_same | (refine updK ?n ?h; (case n => walk_at "ne"); (case h => walk_at "at")) | (refine viaS (by assumption) ?_; walk_at "at") | (refine viaB (by assumption) ?n ?h; (case n => walk_at "ne"); (case h => walk_at "at")))
local macro_rules | `(tactic| walk_at "side") => `(tactic| first | rfl | omega | decide | (refine ⟨by omega, by omega, ?_⟩; first | decide | omega) | (refine Or.inl ⟨by omega, by omega⟩) | (refine Or.inr ⟨by omega, by omega⟩) | exact ⟨by omega, by omega⟩)
/-- one step of a reading whose answers are plain -/
local macro_rules | `(tactic| walk_at "g1") => `(tactic| first | refine ⟨_, rfl, ?_⟩ | refine ⟨_, _, rfl, rfl, ?_⟩ | refine ⟨by walk_at "side", ?_⟩)
local macro_rules | `(tactic| walk_at "g") => `(tactic| repeat walk_at "g1")
theorem sz {n : Nat} (h : n ≤ 1000) : n ≤ sizeLine := Nat.le_of_lt (small1000 h)
theorem Pool.new {H : Hp} {p q : Addr} {x y : Int} {o : HO} (h : Pool H p x y) (n : H q = none) : Pool (upd H q o) p x y := ⟨by rw [upd_ne (ne_of_none h.1 n)]; exact h.1, h.2⟩
def rep (c L : Int) : Int := if (if c < L then c else L) > 1 then (if c < L then c else L) else 1
theorem rep_le {c L : Int} (h : 1 ≤ c) (h2 : c ≤ 63) : 1 ≤ rep c L ∧ rep c L ≤ c := by
  unfold rep
  by_cases d : c < L
  · simp only [if_pos d]; split <;> omega
  · simp only [if_neg d]; split <;> omega
theorem rep_lo {c L : Int} (h : 1 ≤ c) (h2 : c ≤ 63) : -(2 ^ 62) ≤ rep c L := by have := (rep_le (L := L) h h2).1; omega
theorem rep_hi {c L : Int} (h : 1 ≤ c) (h2 : c ≤ 63) : rep c L < 2 ^ 62 := by have := (rep_le (L := L) h h2).2; omega
theorem rep_i {c L : Int} {i : Nat} (h : 1 ≤ c) (h2 : c ≤ 63) (k : i < (rep c L).toNat) : i ≤ 63 := by have := (rep_le (L := L) h h2).2; omega
/-- a pool's own changes leave what stood ahead of it -/
theorem sameP {H H1 H2 H3 : Hp} {p : Addr} (s : Same H H1) (s1 : Same H1 H2) (n : H1 p = none) (b : But p H2 H3) : Same H H3 := fun c o e =>
  b c o (ne_of_none (s c o e) n) (s1 _ _ (s _ _ e))
theorem pick {xs : List V} {r : Int} (P : V → Prop) (h0 : 0 ≤ r) (h1 : r < (xs.length : Int)) (hP : ∀ v ∈ xs, P v) : ∃ v, atI xs r = some v ∧ P v := by
  obtain ⟨j, rfl⟩ : ∃ j : Nat, r = (j : Int) := ⟨r.toNat, by omega⟩
  have hj : j < xs.length := by omega
  exact ⟨xs[j], atI_nat (List.getElem?_eq_getElem hj), hP _ (List.getElem_mem hj)⟩
theorem cut63 {ns : List Int} (h : ns.length ≤ 63) : cutV (ns.map V.int) none (some 63) = ns.map V.int := by
  unfold cutV
  rw [show HT.sIx (ns.map V.int).length (ns.map V.int).length (some 63) = min 63 (ns.map V.int).length from HT.sIx_nat _ _ 63, HT.sIx_none]
  rw [List.drop_zero, Nat.sub_zero, List.length_map, Nat.min_eq_right h]
  exact List.take_of_length_le (by simp)
theorem qb {Q : VK} {H : Hp} {b b' : Bool} (q : Q (.bl b') H) (e : b = b') : Q (.bl b) H := e ▸ q
theorem qi {Q : VK} {H : Hp} {i j : Int} (q : Q (.int j) H) (e : i = j) : Q (.int i) H := e ▸ q
/-! ### the law's own call, where nothing guards: repr of data -/
/-- a def's body, walked for one caller's state A alone -/
theorem body_at {P : Program} {w : World} {K : PySem.W.Frag} {mg : Str → Option Value} {base : Heap} {k : Nat} {f : Addr} {name qual : Str} {params : Arguments} {body : List Stmt} {scope : Scope}
    {dV kV doc pm cdv ct oc : Value} {an od : Option Addr} {osl : Array (Option Value)} {N ps : List Str} {A : Around} {outer : List Env} {s : Shared} {H : Hp} {args : Args} {us : List Value} {vs : List V} {Q : VK}
    (lk : K.lookup f = some ⟨oc, od, .func (PySem.W.fnOf name qual params body scope dV kV doc pm an cdv ct), osl⟩) (hcd : PySem.W.codeIn K cdv qual = true) (S : FnScope N ps scope) (hl : vs.length = ps.length)
    (hr : Room (k + 1) A) (e0 : Env0 P w K mg base A outer s H) (hb : BindsTo s (PySem.W.fnOf name qual params body scope dV kV doc pm an cdv ct) args (ps.zip us)) (rv : Vals vs us)
    (walk : ∃ t, PSs (cxOf CX0 P w K mg base N qual scope f cdv A outer s H (fun _ _ _ => False)) body t ∧ t { nx := fun _ H' => Q .non H', rt := Q } (start N vs) H) :
    codeAny (model P w) A (.call (.ref f) args) (CR CX0 outer P w H s Q fun _ _ _ => False) s := by
  have old : ∀ b o, base.get? b = some o → s.heap.get? b = some o := fun b o z => (e0.bs b o z).1
  have inK : K.In s.heap := e0.mod.kin.keeps old
  have slots : ∀ y ∈ ps.zip us, scope.names.lookup y.1 = some .local ∨ (scope.names.lookup y.1 = some .cell ∧ ((cellsFrom (s.heap.objs.size + 1) scope.names []).lookup y.1).isSome = true) := by
    rintro ⟨n, v⟩ hy
    cases S.par n (List.of_mem_zip hy).1 with
    | inl z => exact Or.inl z
    | inr z => exact Or.inr ⟨z, PySem.W.cellsFrom_some _ _ _ (Or.inl z)⟩
  obtain ⟨t, ht, hq⟩ := walk
  refine codeAny_call_function hr.depth (inK _ _ lk) rfl S.co S.gen rfl (PySem.W.codeRec_of inK hcd) (hb _ _ _ _ ?_)
  refine wpAny_newFunctionEnv_cells S.kind slots fun env eenv s1 ic => ?_
  subst eenv
  refine ⟨(e0.mod.nolimit.keeps old).keeps ic.toInCall.keep, codeAny_func ?_⟩
  have J := inv_start (CX := CX0) (E := fun _ _ _ => False) S hr.hd e0 hl rv ic
  refine wpAny_mono (ht.run [] s1 _ H _ J hq) (fun fl s' got => ?_) fun _ _ z => z
  match fl, got with
  | .ret u, ⟨v, σ', H', J', r', q'⟩ => exact ⟨v, H', J'.os, J'.bare, J'.base, J'.hok, r', q'⟩
  | .next, ⟨σ', H', J', q'⟩ => exact ⟨.non, H', J'.os, J'.bare, J'.base, J'.hok, rfl, q'⟩
  | .brk, ⟨_, _, _, q'⟩ => exact q'.elim
  | .cont, ⟨_, _, _, q'⟩ => exact q'.elim
/-- the script as the only thing that may be tracked -/
structure Scr (P : Program) (w : World) (K : PySem.W.Frag) (h : Heap) (a : Addr) (ns : List Int) (H : Hp) : Prop where
  only : Only H
  seq : SqL K H a (ns.map V.int)
  ok : HOk P w H h
  at' : ∀ b, H b ≠ none → b = a ∧ K.lookup a = none
theorem scr {P : Program} {w : World} {K : PySem.W.Frag} {h : Heap} {a : Addr} {vs : List Value} {ns : List Int} (KX : K.In h)
    (ha : h.get? a = some { cls := .type "list", data := .seq vs.toArray }) (hi : IntsAre vs ns) (hl : ns.length ≤ sizeLine) : ∃ H, Scr P w K h a ns H := by
  have rel := vals_ints hi
  have len : (ns.map V.int).length ≤ sizeLine := by rw [List.length_map]; exact hl
  by_cases inK : K.lookup a = none
  · refine ⟨upd (fun _ => none) a (.frz { cls := .type "list", data := .seq vs.toArray } (.lst (ns.map V.int))), fun b => ?_, .inl (.inr ⟨_, upd_same⟩), fun b o e => ?_, fun b e => ?_⟩
    · rcases Decidable.em (b = a) with z | z
      · subst z; exact .inr ⟨_, _, upd_same⟩
      · exact .inl (upd_ne z)
    · rcases Decidable.em (b = a) with z | z
      · subst z
        rw [upd_same] at e
        cases e
        exact ⟨ha, len, vs, _, rel, ha⟩
      · rw [upd_ne z] at e; cases e
    · rcases Decidable.em (b = a) with z | z
      · exact ⟨z, inK⟩
      · exact absurd (upd_ne z) e
  · obtain ⟨o, ho⟩ : ∃ o, K.lookup a = some o := by
      cases e : K.lookup a with
      | none => exact absurd e inK
      | some o => exact ⟨o, rfl⟩
    have same : o = { cls := .type "list", data := .seq vs.toArray } := Option.some.inj ((KX a o ho).symm.trans ha)
    subst same
    refine ⟨fun _ => none, fun _ => .inl rfl, .inr ⟨_, vs.toArray, 0, ho, rfl, rfl, rfl, ?_, ?_⟩, fun _ _ e => ?_, fun _ e => absurd rfl e⟩
    · have := hi.length
      show vs.toArray.size ≤ sizeLine
      rw [List.size_toArray]; omega
    · show Vals _ vs.toArray.toList
      exact rel
    · exact nomatch e
/-- the law's call from its promise, walked where nothing guards -/
theorem call_scr {P : Program} {w : World} {K : PySem.W.Frag} {mg mb : Str → Option Value} {fa a : Addr} {s₁ : Shared} {vs : List Value} {ns : List Int}
    (KX : K.In s₁.heap) (hns : s₁.heap.Ns mainGlobals mg) (hb : s₁.heap.Ns builtinsNs mb) (hbb : ∀ x : Str, x ≠ "__name__" → mb x = bootBuiltins x) (hlim : s₁.heap.NoLimit) (hg : s₁.gens = #[])
    (ha : s₁.heap.get? a = some { cls := .type "list", data := .seq vs.toArray }) (hi : IntsAre vs ns) (hl : ns.length ≤ sizeLine)
    (B : ∀ base H, K.In base → base.Ns mainGlobals mg → Env0 P w K mg base callerA [] s₁ H → SqL K H a (ns.map V.int) →
      codeAny (model P w) callerA (.call (.ref fa) ⟨[.ref a], []⟩) (CR CX0 [] P w H s₁ (fun v _ => v = .bl true) fun _ _ _ => False) s₁) :
    codeAny (model P w) callerA (.call (.ref fa) ⟨[.ref a], []⟩) (fun r s' => r = .ok (.ret (.bool true)) ∧ OldK s₁.heap s'.heap ∧ s'.os = s₁.os ∧ AllBare s'.gens) s₁ := by
  obtain ⟨H, C⟩ := scr (P := P) (w := w) KX ha hi hl
  -- what holds no list stands in the part that is not tracked
  have free : ∀ b o, s₁.heap.get? b = some o → (∀ n, o.data ≠ .seq vs.toArray n) → H b = none := fun b o e nd => by
    rcases Decidable.em (H b = none) with z | z
    · exact z
    · have q := (C.at' b z).1
      subst q
      rw [ha] at e
      cases e
      exact absurd rfl (nd _)
  have ns_of : ∀ L m, s₁.heap.Ns L m → (hidT s₁.heap H).Ns L m := fun L m n => by
    obtain ⟨o, es, ep, e, d, r⟩ := n
    exact ⟨o, es, ep, hidT_get e (free _ _ e fun k z => by rw [d] at z; cases z), d, r⟩
  have kin : K.In (hidT s₁.heap H) := fun b o e => by
    refine hidT_get (KX b o e) ?_
    rcases Decidable.em (H b = none) with z | z
    · exact z
    · obtain ⟨q, u⟩ := C.at' b z
      subst q
      rw [u] at e; cases e
  obtain ⟨mc, l1, l2⟩ := hlim
  have e0 : Env0 P w K mg (hidT s₁.heap H) callerA [] s₁ H :=
    ⟨rfl, ⟨kin, ns_of _ _ hns, ⟨mb, ns_of _ _ hb, hbb⟩, mc, ns_of _ _ l1, l2⟩, fun b o e => of_hidT e, Nat.le_of_eq (hidT_size _ _), trivial, fun b z => absurd (show b ∈ ([] : List Addr) from z) (by simp), C.ok, AllBare.of_eq hg⟩
  refine codeAny_mono (B _ H kin (ns_of _ _ hns) e0 C.seq) fun r s' got => ?_
  match r, got with
  | .ok (.ret u), ⟨v, H', os, bare, un, hok', rv, q⟩ =>
    cases q
    cases rv
    refine ⟨rfl, OldK.of_keep fun b o e => ?_, os, bare⟩
    rcases C.only b with z | ⟨ob, xs, z⟩
    · exact un.keep b o e z (fun y => nomatch y) (fun y => nomatch y)
    · have o1 := (C.ok b _ z).1
      have o2 := (hok' b _ (un.frzs b ob _ z)).1
      have := Option.some.inj (o1.symm.trans e)
      subst this
      exact o2
  | .ok .next, z => exact False.elim z
  | .ok .brk, z => exact False.elim z
  | .ok .cont, z => exact False.elim z
  | .error e, z => exact False.elim z
/-- the goal that the head leaves: the law's def walked for its caller's own state, in which nothing guards -/
theorem walk_scr {l : PySem.W.OpenLaw} {n : Nat} {q : Program} {loose : List Str} {XP : (Str → Option Value) → Heap → Prop} {YP : World → Heap → Prop} {d : DefRec} {K : Params → PySem.W.Frag}
    (hn : l.most = some n) (hn2 : n ≤ sizeLine) (hdf : d.params.defaults = []) (hY : ∀ (w : World) (h : Heap), YP w h → (K w.params).In h)
    (F : ∀ (w : World) (mg : Str → Option Value) (fa : Addr) (h : Heap), (K w.params).In h → h.Ns mainGlobals mg → mg d.name = some (.ref fa) →
      ∀ (base : Heap) (H : Hp) (s : Shared) (a : Addr) (ns : List Int), (K w.params).In base → base.Ns mainGlobals mg → Env0 l.prog w (K w.params) mg base callerA [] s H → SqL (K w.params) H a (ns.map V.int) → ns.length ≤ n →
        codeAny (model l.prog w) callerA (.call (.ref fa) ⟨[.ref a], []⟩) (CR CX0 [] l.prog w H s (fun v _ => v = .bl true) fun _ _ _ => False) s) :
    PySem.W.WalkO q loose XP YP l.row.toRowW d [] (fun f vs => PySem.call f vs) := by
  refine Att.attach_call hn hdf fun w s₀ s₁ mg mb fa o pm cd doc a vs ns G Y _ _ _ hmg hobj hints hlen hg => ?_
  have KX := hY w _ Y
  exact call_scr KX G.T.g G.T.b G.T.builtins G.T.nolimit hg hobj hints (Nat.le_trans hlen hn2) fun base H kb nb e0 hS => F w mg fa _ KX G.T.g hmg base H s₁ a ns kb nb e0 hS hlen
theorem caller_guards : callerA.guards = some [] := by first | rfl | decide
/-- repr of data, where nothing guards -/
def rRepr (K : PySem.W.Frag) : List V → Hp → VK → Prop := fun xs H Q => ∃ (x : V) (d : PyData), xs = [x] ∧ Dp K H x d ∧ d.showable = true ∧ d.hasDict = false ∧ d.depth ≤ 50 ∧ d.shown.length ≤ sizeLine ∧ Q (.str d.shown) H
theorem call_reprD {X : Cx} (gd : X.A.guards = some []) (hu : X.A.units + 64 < cLine) : CallR X (.builtin "repr") (rRepr X.K) := by
  intro pins s σ H xs us Q I r h
  obtain ⟨x, d, rfl, hd, hs, hnd, hdp, hz, hq⟩ := h
  obtain ⟨u, rfl, ru⟩ := r.one
  obtain ⟨as, rd⟩ := Dp.reads I d x u hd ru
  have byRef : ∀ a, u = .ref a → wpAny (model X.prog X.w) X.A (call (.builtin "repr") [u]) (EP X pins σ Q) X.xe s := fun a e => by
    subst e
    exact repr_of_reads' rd hs (fun z => by rw [hnd] at z; cases z) gd (by omega) (fun _ _ z => z) (fun h' v tk k => ⟨.str d.shown, H, I.kept (t' := tk) k, ⟨_, rfl⟩, hq⟩) hz
  cases hd with
  | non =>
    cases ru
    exact PySem.P.repr_of_none ⟨.str "None", H, I.tok _, ⟨_, rfl⟩, hq⟩
  | bl b =>
    cases ru
    exact PySem.P.repr_of_bool ⟨.str (if b then "True" else "False"), H, I.tok _, ⟨_, rfl⟩, hq⟩
  | int i =>
    obtain ⟨t, rfl⟩ := ru
    exact PySem.P.repr_of_int (of_decide_eq_true hs) ⟨.str (toString i), H, I.tok _, ⟨_, rfl⟩, hq⟩
  | str z =>
    obtain ⟨t, rfl⟩ := ru
    exact PySem.P.repr_of_str ⟨.str (reprText z), H, I.tok _, ⟨_, rfl⟩, hq⟩ hz
  | lst _ _ => exact byRef _ ru
  | tup _ _ => exact byRef _ ru

theorem b01 (k : Bool) : -(2 ^ 64) < (if k then (1 : Int) else 0) ∧ (if k then (1 : Int) else 0) < 2 ^ 64 := by cases k <;> decide
theorem mixb (z : Int) : -(2 ^ 64) < z % 2147483647 ∧ z % 2147483647 < 2 ^ 64 := by omega
theorem sizeb (c : Int) (k : Bool) : 0 ≤ (if c < 0 then -c else c) * (if k then (1 : Int) else 0) := by
  cases k
  · simp
  · simp; split <;> omega

/-! ### the mathematics of bounds -/
def Dd (lo hi : Int) (t : Nat) : Int := (hi - 1) / 2 ^ t - lo / 2 ^ t
def StepIs (lo hi : Int) (s : Nat) : Prop := s ≤ 8 ∧ Dd lo hi s ≤ 15 ∧ ∀ t, t < s → 15 < Dd lo hi t
def Bd (lo hi : Int) : Prop := 0 ≤ lo ∧ lo < hi ∧ hi ≤ 4096
def Ex (lo hi : Int) (s : Nat) : Prop := StepIs lo hi s ∧ lo / 2 ^ s * 2 ^ s = lo ∧ ((hi - 1) / 2 ^ s + 1) * 2 ^ s = hi
theorem le8 {s : Nat} (h : s ≤ 8) : s = 0 ∨ s = 1 ∨ s = 2 ∨ s = 3 ∨ s = 4 ∨ s = 5 ∨ s = 6 ∨ s = 7 ∨ s = 8 := by omega
theorem StepIs.uniq {lo hi : Int} {s t : Nat} (h : StepIs lo hi s) (k : StepIs lo hi t) : s = t := by
  rcases Nat.lt_trichotomy s t with c | c | c
  · have := k.2.2 s c; have := h.2.1; omega
  · exact c
  · have := h.2.2 t c; have := k.2.1; omega
theorem pow_pos2 (s : Nat) : (0 : Int) < 2 ^ s := Int.pow_pos (by decide)
theorem over_eq (lo hi : Int) (s : Nat) : (hi + 1 * 2 ^ s - 1) / 2 ^ s - lo / 2 ^ s = Dd lo hi s + 1 := by
  have e : hi + 1 * 2 ^ s - 1 = (hi - 1) + 1 * 2 ^ s := by omega
  rw [e, Int.add_mul_ediv_right _ _ (Int.ne_of_gt (pow_pos2 s))]
  unfold Dd
  omega
theorem first_over (lo hi : Int) (s : Nat) : lo / 2 ^ s + (Dd lo hi s + 1) = (hi - 1) / 2 ^ s + 1 := by
  unfold Dd; omega
theorem dd8 {lo hi : Int} (b : Bd lo hi) : Dd lo hi 8 ≤ 15 := by
  obtain ⟨h1, h2, h3⟩ := b
  unfold Dd
  have e : (2 : Int) ^ 8 = 256 := by decide
  rw [e]; omega
/-- going up from nought: below s all are too many -/
theorem lt8 {lo hi : Int} {s : Nat} (b : Bd lo hi) (h : 15 < Dd lo hi s) (u : s ≤ 8) : s < 8 := by
  rcases Nat.lt_or_ge s 8 with c | c
  · exact c
  · have e : s = 8 := by omega
    subst e
    have := dd8 b
    omega
/-- what a shift asks -/
theorem p8 {s : Nat} (h : s ≤ 8) : (2 : Int) ^ s ≤ 256 := by
  rcases le8 h with e | e | e | e | e | e | e | e | e <;> subst e <;> decide
theorem na {x : Int} (h0 : 0 ≤ x) (h1 : x ≤ 100000) : x.natAbs < 2 ^ 64 := by omega
theorem div_le' {x : Int} {s : Nat} (h0 : 0 ≤ x) : 0 ≤ x / 2 ^ s ∧ x / 2 ^ s ≤ x :=
  ⟨Int.ediv_nonneg h0 (Int.le_of_lt (pow_pos2 s)), Int.ediv_le_self _ h0⟩
theorem bc {lo hi : Int} {s : Nat} (b : Bd lo hi) (h : s ≤ 8) : CPow (lo / 2 ^ s) (s : Int) := by
  have := div_le' (s := s) b.1
  have := b.2
  exact ⟨by omega, by omega, na (by omega) (by omega)⟩
theorem bc2 {lo hi : Int} {s : Nat} (b : Bd lo hi) (h : StepIs lo hi s) : CPow (lo / 2 ^ s + (Dd lo hi s + 1)) (s : Int) := by
  have h8 := h.1
  obtain ⟨b1, b2, b3⟩ := b
  have := div_le' (s := s) (x := hi - 1) (by omega)
  rw [first_over]
  exact ⟨by omega, by omega, na (by omega) (by omega)⟩
theorem dd0 (n : Int) (s : Nat) : Dd 0 n s + 1 = (n - 1) / 2 ^ s + 1 := by
  unfold Dd; rw [Int.zero_ediv]; omega
theorem bc3 {n : Int} {s : Nat} (h : StepIs 0 n s) (b : Bd 0 n) : CPow (Dd 0 n s + 1) (s : Int) := by
  have h8 := h.1
  obtain ⟨b1, b2, b3⟩ := b
  have := div_le' (s := s) (x := n - 1) (by omega)
  rw [dd0]
  exact ⟨by omega, by omega, na (by omega) (by omega)⟩
def Can (lo hi : Int) (s : Nat) : Prop := lo % 2 ^ s = 0 ∧ 9 ≤ (hi - lo) / 2 ^ s
def GH (lo hi : Int) (s : Nat) : Prop := s ≤ 8 ∧ (s = 0 ∨ Can lo hi s) ∧ ∀ t, s < t → t ≤ 8 → ¬ Can lo hi t
def mn (lo hi : Int) (s : Nat) : Int := if (hi - lo) / 2 ^ s < 16 then (hi - lo) / 2 ^ s else 16
theorem cmn {lo hi : Int} {s : Nat} (b : Bd lo hi) (h : s ≤ 8) : CPow (mn lo hi s) (s : Int) := by
  obtain ⟨b1, b2, b3⟩ := b
  have := div_le' (s := s) (x := hi - lo) (by omega)
  unfold mn
  refine ⟨by omega, by omega, na ?_ ?_⟩ <;> split <;> omega
theorem bl_int {a b : Int} : decide (V.int a = V.int b) = decide (a = b) := by
  by_cases h : a = b
  · subst h; simp
  · have : ¬ (V.int a = V.int b) := fun e => h (V.int.inj e)
    simp [h, this]
theorem t2_eqv {a b c d : Int} : PyData.eqv (.tuple [.int a, .int b]) (.tuple [.int c, .int d]) = true ↔ a = c ∧ b = d := by
  simp [PyData.eqv, PyData.eqvAll]
theorem t2_no {a b c d : Int} (e : PyData.eqv (.tuple [.int a, .int b]) (.tuple [.int c, .int d]) = false) (h1 : a = c) (h2 : b = d) : False := by
  rw [t2_eqv.mpr ⟨h1, h2⟩] at e; cases e
theorem dp2 {K : PySem.W.Frag} {H : Hp} {p : Addr} {a b : Int} (h : H p = some (.tup [.int a, .int b])) : Dp K H (.ref p) (.tuple [.int a, .int b]) :=
  .tup (.of h) (.cons (.int a) (.cons (.int b) .nil))
theorem t3_eqv {a b x c d y : Int} : PyData.eqv (.tuple [.int a, .int b, .int x]) (.tuple [.int c, .int d, .int y]) = true ↔ a = c ∧ b = d ∧ x = y := by
  simp [PyData.eqv, PyData.eqvAll]
theorem dp3 {K : PySem.W.Frag} {H : Hp} {p : Addr} {a b c : Int} (h : H p = some (.tup [.int a, .int b, .int c])) : Dp K H (.ref p) (.tuple [.int a, .int b, .int c]) :=
  .tup (.of h) (.cons (.int a) (.cons (.int b) (.cons (.int c) .nil)))

/-! ### rooms and greatest highs -/
theorem room_eq {n : Int} {s : Nat} (b : Bd 0 n) (h : s ≤ 8) (g : n ≤ 16 * 2 ^ s) (hb : ∀ t, t < s → 16 * 2 ^ t < n) : StepIs 0 n s := by
  obtain ⟨b1, b2, b3⟩ := b
  refine ⟨h, ?_, fun t ht => ?_⟩
  · unfold Dd
    rcases le8 h with e | e | e | e | e | e | e | e | e <;> subst e <;> omega
  · have := hb t ht
    unfold Dd
    have h8 : t ≤ 8 := by omega
    rcases le8 h8 with e | e | e | e | e | e | e | e | e <;> subst e <;> omega
/-- from a multiple of a step on, a room's size is told exactly -/
theorem spot_ex {n r : Int} {s : Nat} (h : StepIs 0 n s) (b : Bd 0 n) (r0 : 0 ≤ r) : Ex (r * 2 ^ s) (r * 2 ^ s + ((n - 1) / 2 ^ s + 1) * 2 ^ s) s := by
  obtain ⟨h8, h1, h2⟩ := h
  obtain ⟨b1, b2, b3⟩ := b
  have h3 : s = 0 ∨ 15 < Dd 0 n (s - 1) := by
    rcases Nat.eq_zero_or_pos s with e | e
    · exact .inl e
    · exact .inr (h2 _ (by omega))
  clear h2
  unfold Ex StepIs Dd at *
  refine ⟨⟨h8, ?_, fun t ht => ?_⟩, ?_, ?_⟩
  · rcases le8 h8 with e | e | e | e | e | e | e | e | e <;> subst e <;> simp at * <;> omega
  · have h9 : t ≤ 8 := by omega
    rcases le8 h8 with e | e | e | e | e | e | e | e | e <;> subst e <;> rcases le8 h9 with e | e | e | e | e | e | e | e | e <;> subst e <;> first | omega | (simp at *; omega)
  · rcases le8 h8 with e | e | e | e | e | e | e | e | e <;> subst e <;> simp at * <;> omega
  · rcases le8 h8 with e | e | e | e | e | e | e | e | e <;> subst e <;> simp at * <;> omega
theorem spot_bd {n r : Int} {s : Nat} (h : StepIs 0 n s) (b : Bd 0 n) (r0 : 0 ≤ r) (r1 : r < (4096 - ((n - 1) / 2 ^ s + 1) * 2 ^ s) / 2 ^ s + 1) : Bd (r * 2 ^ s) (r * 2 ^ s + ((n - 1) / 2 ^ s + 1) * 2 ^ s) := by
  obtain ⟨h8, h1, h2⟩ := h
  obtain ⟨b1, b2, b3⟩ := b
  clear h2 h1
  unfold Bd
  rcases le8 h8 with e | e | e | e | e | e | e | e | e <;> subst e <;> omega
theorem spots_ok {n : Int} {s : Nat} (h : StepIs 0 n s) (b : Bd 0 n) : 0 < (4096 - ((n - 1) / 2 ^ s + 1) * 2 ^ s) / 2 ^ s + 1 ∧ (4096 - ((n - 1) / 2 ^ s + 1) * 2 ^ s) / 2 ^ s + 1 < 5000 := by
  obtain ⟨h8, h1, h2⟩ := h
  obtain ⟨b1, b2, b3⟩ := b
  clear h2 h1
  rcases le8 h8 with e | e | e | e | e | e | e | e | e <;> subst e <;> omega
/-- what is told exactly: a multiple, up to sixteen, from nine on above step 0 -/
theorem ex_can {lo h hi : Int} {t : Nat} (b : Bd lo h) (e : Ex lo h t) (hh : h ≤ hi) : t = 0 ∧ h - lo ≤ 16 ∨ Can lo hi t ∧ h - lo ≤ 16 * 2 ^ t := by
  obtain ⟨⟨h8, h1, h2⟩, e1, e2⟩ := e
  obtain ⟨b1, b2, b3⟩ := b
  have h3 : t = 0 ∨ 15 < Dd lo h (t - 1) := by
    rcases Nat.eq_zero_or_pos t with e | e
    · exact .inl e
    · exact .inr (h2 _ (by omega))
  clear h2
  unfold Can Dd at *
  rcases le8 h8 with e | e | e | e | e | e | e | e | e <;> subst e <;> simp at * <;> omega
theorem gh_ex {lo hi : Int} {s : Nat} (b : Bd lo hi) (h : GH lo hi s) : Bd lo (lo + mn lo hi s * 2 ^ s) ∧ lo + mn lo hi s * 2 ^ s ≤ hi ∧ Ex lo (lo + mn lo hi s * 2 ^ s) s := by
  obtain ⟨h8, h1, h2⟩ := h
  obtain ⟨b1, b2, b3⟩ := b
  clear h2
  unfold Can at h1
  have hm : mn lo hi s = (hi - lo) / 2 ^ s ∧ (hi - lo) / 2 ^ s < 16 ∨ mn lo hi s = 16 ∧ 16 ≤ (hi - lo) / 2 ^ s := by
    unfold mn; split <;> omega
  generalize mn lo hi s = c at hm
  unfold Ex StepIs Dd Bd
  refine ⟨?_, ?_, ⟨h8, ?_, fun t ht => ?_⟩, ?_, ?_⟩
  · rcases le8 h8 with e | e | e | e | e | e | e | e | e <;> subst e <;> simp at * <;> omega
  · rcases le8 h8 with e | e | e | e | e | e | e | e | e <;> subst e <;> simp at * <;> omega
  · rcases le8 h8 with e | e | e | e | e | e | e | e | e <;> subst e <;> simp at * <;> omega
  · have h9 : t ≤ 8 := by omega
    rcases le8 h8 with e | e | e | e | e | e | e | e | e <;> subst e <;> rcases le8 h9 with e | e | e | e | e | e | e | e | e <;> subst e <;> first | omega | (simp at *; omega)
  · rcases le8 h8 with e | e | e | e | e | e | e | e | e <;> subst e <;> simp at * <;> omega
  · rcases le8 h8 with e | e | e | e | e | e | e | e | e <;> subst e <;> simp at * <;> omega
/-- none between the told one and the asked one is told exactly -/
theorem gh_max {lo hi h : Int} {s t : Nat} (b : Bd lo hi) (g : GH lo hi s) (l : lo + mn lo hi s * 2 ^ s < h) (u : h ≤ hi) : ¬ Ex lo h t := by
  intro e
  have bh : Bd lo h := by
    have := (gh_ex b g).1.2.1
    unfold Bd at *; omega
  have k := ex_can bh e u
  have t8 := e.1.1
  obtain ⟨h8, h1, h2⟩ := g
  obtain ⟨b1, b2, b3⟩ := b
  have hm : mn lo hi s = (hi - lo) / 2 ^ s ∧ (hi - lo) / 2 ^ s < 16 ∨ mn lo hi s = 16 ∧ 16 ≤ (hi - lo) / 2 ^ s := by
    unfold mn; split <;> omega
  have k2 : t ≤ s := by
    rcases Nat.lt_or_ge s t with c | c
    · rcases k with k | k
      · omega
      · exact absurd k.1 (h2 t c t8)
    · exact c
  have e1 := e.2.1
  have e2 := e.2.2
  generalize mn lo hi s = c at hm l
  clear h2 e bh
  unfold Can at *
  rcases le8 h8 with e | e | e | e | e | e | e | e | e <;> subst e <;> rcases le8 t8 with e | e | e | e | e | e | e | e | e <;> subst e <;> first | omega | (simp at *; omega)

theorem bc4 {lo hi : Int} {s : Nat} (b : Bd lo hi) (h : s ≤ 8) : CPow ((hi - 1) / 2 ^ s + 1) (s : Int) := by
  obtain ⟨b1, b2, b3⟩ := b
  have := div_le' (s := s) (x := hi - 1) (by omega)
  exact ⟨by omega, by omega, na (by omega) (by omega)⟩
theorem bc5 {z : Int} {s : Nat} (h0 : 0 ≤ z) (h1 : z ≤ 100000) (h : s ≤ 8) : CPow (z / 2 ^ s) (s : Int) := by
  have := div_le' (s := s) (x := z) (by omega)
  exact ⟨by omega, by omega, na (by omega) (by omega)⟩
theorem tgt {n : Int} {s : Nat} (b : Bd 0 n) (h : s ≤ 8) : n ≤ ((n - 1) / 2 ^ s + 1) * 2 ^ s ∧ ((n - 1) / 2 ^ s + 1) * 2 ^ s ≤ 5000 := by
  obtain ⟨b1, b2, b3⟩ := b
  rcases le8 h with e | e | e | e | e | e | e | e | e <;> subst e <;> omega
theorem tgt_eq {n z : Int} {s : Nat} (b : Bd 0 n) (h : s ≤ 8) (h1 : n ≤ z) (h2 : z ≤ ((n - 1) / 2 ^ s + 1) * 2 ^ s) (e : z / 2 ^ s * 2 ^ s = z) : z = ((n - 1) / 2 ^ s + 1) * 2 ^ s := by
  obtain ⟨b1, b2, b3⟩ := b
  rcases le8 h with e | e | e | e | e | e | e | e | e <;> subst e <;> omega
theorem tgt_ne {n z : Int} {s : Nat} (b : Bd 0 n) (h : s ≤ 8) (h2 : z ≤ ((n - 1) / 2 ^ s + 1) * 2 ^ s) (e : ¬ z / 2 ^ s * 2 ^ s = z) : z < ((n - 1) / 2 ^ s + 1) * 2 ^ s := by
  rcases Int.lt_or_eq_of_le h2 with c | c
  · exact c
  · exact absurd (by rw [c, Int.mul_ediv_cancel _ (Int.ne_of_gt (pow_pos2 s))]) e
theorem up16 {n : Int} {s : Nat} (b : Bd 0 n) (h : s ≤ 8) (c : 16 * 2 ^ s < n) : s < 8 := by
  rcases Nat.lt_or_ge s 8 with d | d
  · exact d
  · have : s = 8 := by omega
    subst this
    have := b.2.2
    omega
theorem ex_one {lo : Int} (b : Bd lo (lo + 1)) : Ex lo (lo + 1) 0 := by
  obtain ⟨b1, b2, b3⟩ := b
  unfold Ex StepIs Dd
  refine ⟨⟨by omega, by omega, fun t h => by omega⟩, by omega, by omega⟩
theorem ghv {s : Nat} (h : GH 0 4096 s) : 0 + mn 0 4096 s * 2 ^ s = 4096 := by
  obtain ⟨h8, h1, h2⟩ := h
  have k : s = 8 := by
    rcases Nat.lt_or_ge s 8 with c | c
    · exact absurd (by unfold Can; omega) (h2 8 c (Nat.le_refl _))
    · omega
  subst k
  unfold mn
  decide
theorem ghv2 {s : Nat} (h : GH 256 4096 s) : 256 + mn 256 4096 s * 2 ^ s = 4096 := by
  obtain ⟨h8, h1, h2⟩ := h
  have k : s = 8 := by
    rcases Nat.lt_or_ge s 8 with c | c
    · exact absurd (by unfold Can; omega) (h2 8 c (Nat.le_refl _))
    · omega
  subst k
  unfold mn
  decide
theorem ghv3 {s : Nat} (h : GH 1 4096 s) : 1 + mn 1 4096 s * 2 ^ s = 17 := by
  obtain ⟨h8, h1, h2⟩ := h
  have k : s = 0 := by
    rcases h1 with c | c
    · exact c
    · unfold Can at c
      rcases le8 h8 with e | e | e | e | e | e | e | e | e <;> subst e <;> first | rfl | omega
  subst k
  unfold mn
  decide
theorem three_eqv : PyData.eqv (.list [.int 4096, .int 4096, .int 17]) (.list [.int 4096, .int 4096, .int 17]) = true := by decide

theorem rg_map : rgV 1 81 = ((List.range 80).map fun (i : Nat) => (1 : Int) + (i : Int)).map V.int := by
  unfold rgV; rw [List.map_map]; rfl
theorem rg_pos : ∀ z ∈ (List.range 80).map fun (i : Nat) => (1 : Int) + (i : Int), 0 < z := by
  intro z hz
  obtain ⟨i, _, rfl⟩ := List.mem_map.mp hz
  omega
theorem k16 {i : Nat} (h : i ≤ 8) : 16 ≤ 16 * (2 : Int) ^ i := by
  have := pow_pos2 i; omega

/-! ### a chain of three -/
def tChain3 (r r' r'' : R2) (ta tb tc td : TE) : TE := fun σ H Q => ta σ H fun x H1 => tb σ H1 fun y H2 => r x y H2 fun z H3 => ∃ k, z = .bl k ∧
  (if k = true then tc σ H3 fun u H4 => r' y u H4 fun z' H5 => ∃ k', z' = .bl k' ∧ (if k' = true then td σ H5 fun v H6 => r'' u v H6 Q else Q (.bl false) H5) else Q (.bl false) H3)
theorem pt_chain3 {X : Cx} {o1 o2 o3 : CmpOp} {r r' r'' : R2} {a b c d : Expr} {ta tb tc td : TE} {pos : Pos} (h1 : OpR X (compareOp o1) r) (h2 : OpR X (compareOp o2) r') (h3 : OpR X (compareOp o3) r'') (ha : PE X a ta) (hb : PE X b tb) (hc : PE X c tc) (hd : PE X d td)
    (hm : lastMarks [o1, o2, o3] [b, c, d] = false := by with_unfolding_all rfl) : PT X (.Compare a [o1, o2, o3] [b, c, d] pos) (tTest (tChain3 r r' r'' ta tb tc td)) := by
  refine ⟨fun pins s σ H Q I h => isTrue_chain (thn (ha.run pins s σ H _ I h) fun v s1 ⟨x, H1, I1, q1, w1⟩ => test_link (thn (hb.run pins s1 σ H1 _ I1 w1) fun u s2 ⟨y, H2, I2, q2, w2⟩ =>
    thn (h1 pins s2 σ H2 x y v u _ I2 q1 q2 w2) fun e s3 ⟨z, H3, I3, q3, k, ez, w3⟩ => ?_)) hm⟩
  subst ez
  cases q3
  refine wpAny_truthy_bool ?_
  cases k with
  | false =>
    obtain ⟨k', e', w'⟩ := w3
    cases e'
    exact ite_ff ⟨H3, I3, w'⟩
  | true =>
    refine ite_tt (test_link (thn (hc.run pins s3 σ H3 _ I3 w3) fun m s4 ⟨y2, H4, I4, q4, w4⟩ => thn (h2 pins s4 σ H4 y y2 u m _ I4 q2 q4 w4) fun e2 s5 ⟨z2, H5, I5, q5, k2, ez2, w5⟩ => ?_))
    subst ez2
    cases q5
    refine wpAny_truthy_bool ?_
    cases k2 with
    | false =>
      obtain ⟨k', e', w'⟩ := w5
      cases e'
      exact ite_ff ⟨H5, I5, w'⟩
    | true =>
      refine ite_tt (test_last (thn (hd.run pins s5 σ H5 _ I5 w5) fun n s6 ⟨y3, H6, I6, q6, w6⟩ => thn (h3 pins s6 σ H6 y2 y3 m n _ I6 q4 q6 w6) fun e3 s7 ⟨z3, H7, I7, q7, k3, ez3, w7⟩ => ?_))
      subst ez3
      cases q7
      exact wpAny_truthy_bool ⟨H7, I7, w7⟩
/-! ### the dict of all told bounds -/
theorem i0 (i : Nat) : (0 : Int) + (i : Int) = (i : Int) := by omega
def key2 (lo hi : Int) : List Key := [.inl lo, .inl hi]
def Tol (lo hi : Int) : Prop := ∃ (s : Nat) (f c : Int), s ≤ 8 ∧ 0 ≤ f ∧ 1 ≤ c ∧ c ≤ 16 ∧ lo = f * 2 ^ s ∧ hi = (f + c) * 2 ^ s
def Snd (kvs : List (List Key × V)) (m : Int) : Prop := (∀ lo hi, valV kvs (key2 lo hi) ≠ none → Tol lo hi ∧ hi ≤ m) ∧ ∀ e ∈ kvs, ∃ lo hi, e.1 = key2 lo hi
def Cmp (kvs : List (List Key × V)) (m : Int) (i : Nat) (j k : Int) : Prop := ∀ (s : Nat) (f c : Int), 0 ≤ f → 1 ≤ c → c ≤ 16 → (f + c) * 2 ^ s ≤ m → (s < i ∨ (s = i ∧ f < j) ∨ (s = i ∧ f = j ∧ c ≤ k)) → valV kvs (key2 (f * 2 ^ s) ((f + c) * 2 ^ s)) ≠ none
theorem key2_inj {a b c d : Int} (h : key2 a b = key2 c d) : a = c ∧ b = d := by
  injection h with h1 h2
  injection h2 with h2 _
  exact ⟨Sum.inl.inj h1, Sum.inl.inj h2⟩
theorem mem_put {kvs : List (List Key × V)} {k : List Key} {v : V} {e : List Key × V} (h : e ∈ putK kvs k v) : e.1 = k ∨ ∃ e' ∈ kvs, e.1 = e'.1 := by
  unfold putK at h
  split at h
  · obtain ⟨e', h1, h2⟩ := List.mem_map.mp h
    right
    refine ⟨e', h1, ?_⟩
    rw [← h2]
    split <;> rfl
  · rcases List.mem_append.mp h with c | c
    · exact .inr ⟨e, c, rfl⟩
    · left
      have := List.mem_singleton.mp c
      rw [this]
theorem Snd.put {kvs : List (List Key × V)} {m f c : Int} {s : Nat} (h : Snd kvs m) (s8 : s ≤ 8) (f0 : 0 ≤ f) (c1 : 1 ≤ c) (c16 : c ≤ 16) (hm : (f + c) * 2 ^ s ≤ m) : Snd (putK kvs (key2 (f * 2 ^ s) ((f + c) * 2 ^ s)) (.bl true)) m := by
  refine ⟨fun lo hi hv => ?_, fun e he => ?_⟩
  · rw [valV_put] at hv
    by_cases e : key2 lo hi = key2 (f * 2 ^ s) ((f + c) * 2 ^ s)
    · obtain ⟨e1, e2⟩ := key2_inj e
      exact ⟨⟨s, f, c, s8, f0, c1, c16, e1, e2⟩, by rw [e2]; exact hm⟩
    · rw [if_neg e] at hv
      exact h.1 lo hi hv
  · rcases mem_put he with e1 | ⟨e', h1, h2⟩
    · exact ⟨_, _, e1⟩
    · obtain ⟨lo, hi, h3⟩ := h.2 e' h1
      exact ⟨lo, hi, h2.trans h3⟩
theorem Cmp.put {kvs : List (List Key × V)} {m : Int} {i : Nat} {j k : Int} (h : Cmp kvs m i j k) : Cmp (putK kvs (key2 (j * 2 ^ i) ((j + (k + 1)) * 2 ^ i)) (.bl true)) m i j (k + 1) := by
  intro s f c f0 c1 c16 hm hw
  rw [valV_put]
  by_cases e : key2 (f * 2 ^ s) ((f + c) * 2 ^ s) = key2 (j * 2 ^ i) ((j + (k + 1)) * 2 ^ i)
  · rw [if_pos e]; exact fun z => nomatch z
  · rw [if_neg e]
    refine h s f c f0 c1 c16 hm ?_
    rcases hw with w | w | ⟨w1, w2, w3⟩
    · exact .inl w
    · exact .inr (.inl w)
    · refine .inr (.inr ⟨w1, w2, ?_⟩)
      rcases Int.lt_or_eq_of_le w3 with z | z
      · omega
      · subst w1 w2 z
        exact absurd rfl e
theorem Cmp.skip {kvs : List (List Key × V)} {m : Int} {i : Nat} {j k : Int} (h : Cmp kvs m i j k) (n : ¬ (j + (k + 1)) * 2 ^ i ≤ m) : Cmp kvs m i j (k + 1) := by
  intro s f c f0 c1 c16 hm hw
  refine h s f c f0 c1 c16 hm ?_
  rcases hw with w | w | ⟨w1, w2, w3⟩
  · exact .inl w
  · exact .inr (.inl w)
  · refine .inr (.inr ⟨w1, w2, ?_⟩)
    rcases Int.lt_or_eq_of_le w3 with z | z
    · omega
    · subst w1 w2 z
      exact absurd hm n
theorem Cmp.next {kvs : List (List Key × V)} {m : Int} {i : Nat} {j : Int} (h : Cmp kvs m i j 16) : Cmp kvs m i (j + 1) 0 := by
  intro s f c f0 c1 c16 hm hw
  refine h s f c f0 c1 c16 hm ?_
  rcases hw with w | ⟨w1, w2⟩ | ⟨w1, w2, w3⟩
  · exact .inl w
  · rcases Int.lt_or_eq_of_le (show f ≤ j by omega) with z | z
    · exact .inr (.inl ⟨w1, z⟩)
    · exact .inr (.inr ⟨w1, z, c16⟩)
  · omega
theorem len1a {l a j : Nat} (h : l ≤ a + j * 16 + 16) : l ≤ a + (j + 1) * 16 := by omega
theorem len1 {l i j : Nat} (h : l ≤ i * 70000 + j * 16 + 16) : l ≤ i * 70000 + (j + 1) * 16 := len1a (a := i * 70000) h
theorem len2 {l i n : Nat} (h : l ≤ i * 70000 + n * 16) (hn : n ≤ 4097) : l ≤ (i + 1) * 70000 := by omega
theorem Cmp.up {kvs : List (List Key × V)} {m : Int} {i : Nat} (h : Cmp kvs m i (m / 2 ^ i + 1) 0) : Cmp kvs m (i + 1) 0 0 := by
  intro s f c f0 c1 c16 hm hw
  refine h s f c f0 c1 c16 hm ?_
  rcases hw with w | ⟨w1, w2⟩ | ⟨w1, w2, w3⟩
  · rcases Nat.lt_or_ge s i with z | z
    · exact .inl z
    · have e : s = i := by omega
      subst e
      refine .inr (.inl ⟨rfl, ?_⟩)
      have p := pow_pos2 s
      have h1 : f * 2 ^ s ≤ (f + c) * 2 ^ s := Int.mul_le_mul_of_nonneg_right (by omega) (Int.le_of_lt p)
      have h2 : f ≤ m / 2 ^ s := Int.le_ediv_of_mul_le p (by omega)
      omega
  · omega
  · omega

theorem upd_self {H : Hp} {a : Addr} {o : HO} (h : H a = some o) : upd H a o = H := by
  funext b
  rcases Decidable.em (b = a) with e | e
  · subst e; rw [upd_same, h]
  · rw [upd_ne e]
theorem tol_in {a b lo hi : Int} {s : Nat} (t : Tol a b) (h1 : a ≤ lo) (h2 : lo < hi) (h3 : hi ≤ b) (g : StepIs lo hi s) : a ≤ lo / 2 ^ s * 2 ^ s ∧ ((hi - 1) / 2 ^ s + 1) * 2 ^ s ≤ b := by
  obtain ⟨t, f, c, t8, f0, c1, c16, ea, eb⟩ := t
  have st : s ≤ t := by
    rcases Nat.lt_or_ge t s with z | z
    · have := g.2.2 t z
      exfalso
      clear g
      unfold Dd at *
      rcases le8 t8 with e | e | e | e | e | e | e | e | e <;> subst e <;> omega
    · exact z
  have s8 := g.1
  clear g
  rcases le8 t8 with e | e | e | e | e | e | e | e | e <;> subst e <;> rcases le8 s8 with e | e | e | e | e | e | e | e | e <;> subst e <;> first | omega | (simp at *; omega)
theorem least_128 {lo hi : Int} {s : Nat} (b : Bd lo hi) (h : hi ≤ 96) (g : StepIs lo hi s) : ((hi - 1) / 2 ^ s + 1) * 2 ^ s ≤ 128 := by
  have s8 := g.1
  obtain ⟨b1, b2, b3⟩ := b
  have s3 : s ≤ 3 := by
    rcases Nat.lt_or_ge 3 s with z | z
    · have := g.2.2 3 z
      exfalso
      clear g
      unfold Dd at this
      omega
    · exact z
  clear g
  rcases le8 s8 with e | e | e | e | e | e | e | e | e <;> subst e <;> omega
theorem least_facts {lo hi : Int} {s : Nat} (b : Bd lo hi) (g : StepIs lo hi s) : lo / 2 ^ s * 2 ^ s ≤ lo ∧ hi ≤ ((hi - 1) / 2 ^ s + 1) * 2 ^ s ∧ 0 ≤ lo / 2 ^ s ∧ lo / 2 ^ s ≤ 4096 ∧ 1 ≤ Dd lo hi s + 1 ∧ Dd lo hi s + 1 ≤ 16 ∧ (s = 0 ∨ 9 ≤ Dd lo hi s + 1) := by
  have s8 := g.1
  have g1 := g.2.1
  have h3 : s = 0 ∨ 15 < Dd lo hi (s - 1) := by
    rcases Nat.eq_zero_or_pos s with e | e
    · exact .inl e
    · exact .inr (g.2.2 _ (by omega))
  obtain ⟨b1, b2, b3⟩ := b
  clear g
  unfold Dd at *
  rcases le8 s8 with e | e | e | e | e | e | e | e | e <;> subst e <;> simp at * <;> omega
theorem cmp_least {kvs : List (List Key × V)} {lo hi : Int} {s : Nat} (hc : Cmp kvs 128 9 0 0) (b : Bd lo hi) (h : hi ≤ 96) (g : StepIs lo hi s) : valV kvs (key2 (lo / 2 ^ s * 2 ^ s) (((hi - 1) / 2 ^ s + 1) * 2 ^ s)) ≠ none := by
  obtain ⟨_, _, f0, _, c1, c16, _⟩ := least_facts b g
  have s8 := g.1
  have e := first_over lo hi s
  have := hc s (lo / 2 ^ s) (Dd lo hi s + 1) f0 c1 c16 (by rw [e]; exact least_128 b h g) (.inl (by omega))
  rw [e] at this
  exact this
theorem exact_in {kvs : List (List Key × V)} {lo hi : Int} (hs : Snd kvs 128) (hc : Cmp kvs 128 9 0 0) (b : Bd lo hi) (h : hi ≤ 96) {s : Nat} (g : StepIs lo hi s) : (∃ s, Ex lo hi s) ↔ valV kvs (key2 lo hi) ≠ none := by
  constructor
  · rintro ⟨t, e1, e2, e3⟩
    have := cmp_least hc b h e1
    rw [e2, e3] at this
    exact this
  · intro z
    have t := (hs.1 lo hi z).1
    have i := tol_in t (Int.le_refl _) b.2.1 (Int.le_refl _) g
    have f := least_facts b g
    exact ⟨s, g, by omega, by omega⟩
theorem some_of {o : Option V} (h : o ≠ none) : o.isSome = true := by
  cases o with
  | none => exact absurd rfl h
  | some v => rfl
theorem none_of {o : Option V} (h : ¬ o ≠ none) : o.isSome = false := by
  cases o with
  | none => rfl
  | some v => exact absurd (fun z => nomatch z) h

theorem mm6 {lo hi : Int} {p : Prop} [Decidable p] : (PyData.bool (decide p)).showable = true := rfl
theorem bl_depth (b : Bool) : (PyData.bool b).depth ≤ 50 := by simp [PyData.depth]
theorem bl_shown (b : Bool) : (PyData.shown (.bool b)).length ≤ sizeLine := by cases b <;> exact sz (by decide)
theorem t3i {a b c : Int} {p : Addr} {K : PySem.W.Frag} {H : Hp} (h : H p = some (.tup [.int a, .int b, .int c])) : SqT K H p [.int a, .int b, .int c] := .of h

def topS (i : Nat) : Stmt := PySem.Challenge.pw_sealedreach_k06_least_bounds_told.main.body.getD i (.Pass ⟨0, 0, 0, 0⟩)
abbrev s_is_whole : Stmt := topS 4
abbrev s_are_bounds : Stmt := topS 8
abbrev s_look_at_bounds : Stmt := topS 9
abbrev s__steps_over : Stmt := topS 13
abbrev s_in_bits : Stmt := topS 12
abbrev s_least_bounds : Stmt := topS 11
abbrev s_is_exact : Stmt := topS 10
abbrev s__law_take : Stmt := topS 16
abbrev s__law_pool : Stmt := topS 15
abbrev s__law_least : Stmt := topS 17
abbrev s__law_all_told : Stmt := topS 18
abbrev s__law_bits_so : Stmt := topS 19
abbrev s__law_small_so : Stmt := topS 20
abbrev s_law : Stmt := topS 21
theorem sc_is_whole : FnScope ["thing", "least", "most"] ["thing", "least", "most"] (defScope s_is_whole) := ⟨rfl, rfl, rfl, by decide +kernel, rfl, by decide +kernel, by decide +kernel⟩
theorem sc_are_bounds : FnScope ["low", "high"] ["low", "high"] (defScope s_are_bounds) := ⟨rfl, rfl, rfl, by decide +kernel, rfl, by decide +kernel, by decide +kernel⟩
theorem sc_look_at_bounds : FnScope ["low", "high"] ["low", "high"] (defScope s_look_at_bounds) := ⟨rfl, rfl, rfl, by decide +kernel, rfl, by decide +kernel, by decide +kernel⟩
theorem sc__steps_over : FnScope ["low", "high", "step", "first", "behind"] ["low", "high", "step"] (defScope s__steps_over) := ⟨rfl, rfl, rfl, by decide +kernel, rfl, by decide +kernel, by decide +kernel⟩
theorem sc_in_bits : FnScope ["low", "high", "step"] ["low", "high"] (defScope s_in_bits) := ⟨rfl, rfl, rfl, by decide +kernel, rfl, by decide +kernel, by decide +kernel⟩
theorem sc_least_bounds : FnScope ["low", "high", "step", "first", "count"] ["low", "high"] (defScope s_least_bounds) := ⟨rfl, rfl, rfl, by decide +kernel, rfl, by decide +kernel, by decide +kernel⟩
theorem sc_is_exact : FnScope ["low", "high"] ["low", "high"] (defScope s_is_exact) := ⟨rfl, rfl, rfl, by decide +kernel, rfl, by decide +kernel, by decide +kernel⟩
theorem sc__law_take : FnScope ["_law_pool_here", "_law_many", "_law_found"] ["_law_pool_here", "_law_many"] (defScope s__law_take) := ⟨rfl, rfl, rfl, by decide +kernel, rfl, by decide +kernel, by decide +kernel⟩
theorem sc__law_pool : FnScope ["_law_script", "_law_k", "_law_cell", "_law_size", "_law_mixed"] ["_law_script", "_law_k"] (defScope s__law_pool) := ⟨rfl, rfl, rfl, by decide +kernel, rfl, by decide +kernel, by decide +kernel⟩
theorem sc__law_least : FnScope ["_law_low", "_law_high", "_law_step"] ["_law_low", "_law_high"] (defScope s__law_least) := ⟨rfl, rfl, rfl, by decide +kernel, rfl, by decide +kernel, by decide +kernel⟩
theorem sc__law_all_told : FnScope ["_law_most", "_law_found", "_law_step", "_law_first", "_law_count"] ["_law_most"] (defScope s__law_all_told) := ⟨rfl, rfl, rfl, by decide +kernel, rfl, by decide +kernel, by decide +kernel⟩
theorem sc__law_bits_so : FnScope ["_law_low", "_law_high", "_law_some", "_law_step", "_law_first", "_law_count"] ["_law_low", "_law_high", "_law_some"] (defScope s__law_bits_so) := ⟨rfl, rfl, rfl, by decide +kernel, rfl, by decide +kernel, by decide +kernel⟩
theorem sc__law_small_so : FnScope ["_law_low", "_law_high", "_law_every", "_law_found", "_law_own_low", "_law_own_high"] ["_law_low", "_law_high", "_law_every"] (defScope s__law_small_so) := ⟨rfl, rfl, rfl, by decide +kernel, rfl, by decide +kernel, by decide +kernel⟩
theorem sc_law : FnScope ["_law_script", "_law_every", "_law_k", "_law_pool_here", "_law_low", "_law_high", "_law_turn", "_law_due"] ["_law_script"] (defScope s_law) := ⟨rfl, rfl, rfl, by decide +kernel, rfl, by decide +kernel, by decide +kernel⟩
structure Txt (K : PySem.W.Frag) (mg : Str → Option Value) : Prop where
  z_abs : mg "abs" = none
  z_bool : mg "bool" = none
  z_int : mg "int" = none
  z_isinstance : mg "isinstance" = none
  z_len : mg "len" = none
  z_max : mg "max" = none
  z_min : mg "min" = none
  z_range : mg "range" = none
  z_repr : mg "repr" = none
  z_sum : mg "sum" = none
  z_tuple : mg "tuple" = none
  c_CELLS : ∃ t, mg "CELLS" = some (.int 4096 t)
  c_TOP_COUNT : ∃ t, mg "TOP_COUNT" = some (.int 16 t)
section
variable {P : Program} {w : World} {K : PySem.W.Frag} {mg : Str → Option Value} {base : Heap}

def sp_is_whole (K : PySem.W.Frag) : Sp := fun vs H Q _ => ∃ n l m, vs = [.int n, .int l, .int m] ∧ ∀ b, (b = true ↔ l ≤ n ∧ n ≤ m) → Q (.bl b) H
theorem ok_is_whole {f : Addr} {fd : FuncData} (F : Fun K "is_whole" "is_whole" s_is_whole f fd) (T : Txt K mg) : FnOk P w K mg base CX0 1 f fd ["thing", "least", "most"] (sp_is_whole K) := by
  refine F.ok sc_is_whole (fun vs H Q E h => ?_) (fun cdv A outer s H vs Q E hr h => ?_)
  · obtain ⟨n, l, m, rfl, q⟩ := h; rfl
  · obtain ⟨n, l, m, rfl, q⟩ := h
    refine ⟨_, (pss_one (ps_ret (pe_and (pe_callB call_isi (by rfl) T.z_isinstance (by decide +kernel) (pa_cons (pv 0) (pa_cons (pe_bltn (v := .ty "int") (by rfl) T.z_int (by decide +kernel) rfl) pa_nil))) (pe_and (pe_not (pe_callB call_isi (by rfl) T.z_isinstance (by decide +kernel) (pa_cons (pv 0) (pa_cons (pe_bltn (v := .ty "bool") (by rfl) T.z_bool (by decide +kernel) rfl) pa_nil)))) (pe_one (pe_chain op_le op_le (pv 1) (pv 0) (pv 2))))))), ?_⟩
    refine ⟨_, rfl, _, _, _, _, true, rfl, .ty "int", .base (.int n), kit_ty (by decide +kernel), true, rfl, iteT ?_⟩
    refine ⟨_, rfl, _, _, _, _, false, rfl, .ty "bool", .base (.int n), kit_ty (by decide +kernel), false, rfl, true, rfl, iteT ?_⟩
    refine ⟨_, rfl, _, rfl, _, _, rfl, rfl, _, rfl, ifd (fun h1 => ?_) (fun h1 => ?_)⟩
    · refine ⟨_, rfl, _, _, rfl, rfl, q _ ?_⟩
      simp [h1]
    · refine q _ ?_
      simp; omega

def sp_are_bounds (K : PySem.W.Frag) : Sp := fun vs H Q _ => ∃ lo hi, vs = [.int lo, .int hi] ∧ ∀ b, (b = true ↔ Bd lo hi) → Q (.bl b) H
theorem ok_are_bounds {f : Addr} {fd : FuncData} (F : Fun K "are_bounds" "are_bounds" s_are_bounds f fd) (T : Txt K mg) (C_is_whole : Cal P w K mg base "is_whole" 1 ["thing", "least", "most"] (sp_is_whole K)) : FnOk P w K mg base CX0 2 f fd ["low", "high"] (sp_are_bounds K) := by
  obtain ⟨t_CELLS, hc_CELLS⟩ := T.c_CELLS
  refine F.ok sc_are_bounds (fun vs H Q E h => ?_) (fun cdv A outer s H vs Q E hr h => ?_)
  · obtain ⟨lo, hi, rfl, q⟩ := h; rfl
  · obtain ⟨lo, hi, rfl, q⟩ := h
    refine ⟨_, (pss_one (ps_ret (pe_and (pe_cal C_is_whole (hr.mono (by decide)) (pa_cons (pv 0) (pa_cons pe_int (pa_cons (pe_glob (v := .int 4096) (by rfl) hc_CELLS ⟨_, rfl⟩) pa_nil)))) (pe_and (pe_cal C_is_whole (hr.mono (by decide)) (pa_cons (pv 1) (pa_cons pe_int (pa_cons (pe_glob (v := .int 4096) (by rfl) hc_CELLS ⟨_, rfl⟩) pa_nil)))) (pe_one (pe_cmpR op_lt (pv 0) (pv 1) (nomark _))))))), ?_⟩
    refine ⟨_, rfl, _, _, _, rfl, fun b hb => ⟨_, rfl, ifb (fun e => ?_) (fun e => ?_)⟩⟩
    · refine ⟨_, rfl, _, _, _, rfl, fun c hc => ⟨_, rfl, ifb (fun e2 => ?_) (fun e2 => ?_)⟩⟩
      · refine ⟨_, rfl, _, rfl, _, _, rfl, rfl, q _ ?_⟩
        have h1 := hb.mp e
        have h2 := hc.mp e2
        unfold Bd
        simp; omega
      · refine q _ ?_
        have h1 := hb.mp e
        have h2 : ¬ (0 ≤ hi ∧ hi ≤ 4096) := fun z => by rw [hc.mpr z] at e2; cases e2
        unfold Bd
        simp; omega
    · refine q _ ?_
      have h2 : ¬ (0 ≤ lo ∧ lo ≤ 4096) := fun z => by rw [hb.mpr z] at e; cases e
      unfold Bd
      simp; omega

def sp_look_at_bounds (K : PySem.W.Frag) : Sp := fun vs H Q _ => ∃ lo hi, vs = [.int lo, .int hi] ∧ Bd lo hi ∧ Q .non H
theorem ok_look_at_bounds {f : Addr} {fd : FuncData} (F : Fun K "look_at_bounds" "look_at_bounds" s_look_at_bounds f fd) (T : Txt K mg) (C_are_bounds : Cal P w K mg base "are_bounds" 2 ["low", "high"] (sp_are_bounds K)) : FnOk P w K mg base CX0 3 f fd ["low", "high"] (sp_look_at_bounds K) := by
  refine F.ok sc_look_at_bounds (fun vs H Q E h => ?_) (fun cdv A outer s H vs Q E hr h => ?_)
  · obtain ⟨lo, hi, rfl, hb, q⟩ := h; rfl
  · obtain ⟨lo, hi, rfl, hb, q⟩ := h
    refine ⟨_, (pss_one (ps_if (pt_not (pt_val (pe_cal C_are_bounds (hr.mono (by decide)) (pa_cons (pv 0) (pa_cons (pv 1) pa_nil))))) (pss_one ps_never) pss_nil)), ?_⟩
    refine ⟨_, rfl, _, rfl, lo, hi, rfl, fun b hb2 => ⟨_, rfl, ?_⟩⟩
    have e : b = true := hb2.mpr hb
    subst e
    exact q

def sp__steps_over (K : PySem.W.Frag) : Sp := fun vs H Q _ => ∃ (lo hi : Int) (s : Nat), vs = [.int lo, .int hi, .int s] ∧ s ≤ 1000 ∧ Q (.int (Dd lo hi s + 1)) H
theorem ok__steps_over {f : Addr} {fd : FuncData} (F : Fun K "_steps_over" "_steps_over" s__steps_over f fd) (T : Txt K mg) : FnOk P w K mg base CX0 1 f fd ["low", "high", "step"] (sp__steps_over K) := by
  refine F.ok sc__steps_over (fun vs H Q E h => ?_) (fun cdv A outer s H vs Q E hr h => ?_)
  · obtain ⟨lo, hi, s, rfl, hs, q⟩ := h; rfl
  · obtain ⟨lo, hi, s, rfl, hs, q⟩ := h
    refine ⟨_, (pss_cons (ps_set (i := 3) sc__steps_over.nd rfl (.inl rfl) (pe_op op_shr (pv 0) (pv 2)))
      (pss_cons (ps_set (i := 4) sc__steps_over.nd rfl (.inl rfl) (pe_op op_shr (pe_op op_sub (pe_op op_add (pv 1) (pe_op op_shl pe_int (pv 2))) pe_int) (pv 2)))
      (pss_one (ps_ret (pe_op op_sub (pv 4) (pv 3)))))), ?_⟩
    walk_at "g"
    rw [← over_eq] at q
    exact q

def sp_in_bits (K : PySem.W.Frag) : Sp := fun vs H Q _ => ∃ lo hi, vs = [.int lo, .int hi] ∧ Bd lo hi ∧ ∀ (s : Nat) p, StepIs lo hi s → H p = none → Q (.ref p) (upd H p (.tup [.int s, .int (lo / 2 ^ s), .int (Dd lo hi s + 1)]))
theorem ok_in_bits {f : Addr} {fd : FuncData} (F : Fun K "in_bits" "in_bits" s_in_bits f fd) (T : Txt K mg) (C_look_at_bounds : Cal P w K mg base "look_at_bounds" 3 ["low", "high"] (sp_look_at_bounds K)) (C__steps_over : Cal P w K mg base "_steps_over" 1 ["low", "high", "step"] (sp__steps_over K)) : FnOk P w K mg base CX0 4 f fd ["low", "high"] (sp_in_bits K) := by
  obtain ⟨t_TOP_COUNT, hc_TOP_COUNT⟩ := T.c_TOP_COUNT
  refine F.ok sc_in_bits (fun vs H Q E h => ?_) (fun cdv A outer s H vs Q E hr h => ?_)
  · obtain ⟨lo, hi, rfl, hb, q⟩ := h; rfl
  · obtain ⟨lo, hi, rfl, hb, q⟩ := h
    refine ⟨_, (pss_cons (ps_expr (pe_cal C_look_at_bounds (hr.mono (by decide)) (pa_cons (pv 0) (pa_cons (pv 1) pa_nil))))
      (pss_cons (ps_set (i := 2) sc_in_bits.nd rfl (.inl rfl) pe_int)
      (pss_cons (ps_while PassesOwn.never (pt_cmpR op_gt (pe_cal C__steps_over (hr.mono (by decide)) (pa_cons (pv 0) (pa_cons (pv 1) (pa_cons (pv 2) pa_nil)))) (pe_glob (v := .int 16) (by rfl) hc_TOP_COUNT ⟨_, rfl⟩) (nomark _)) (pss_one (ps_aug (i := 2) sc_in_bits.nd rfl (.inl rfl) pe_int ip_add)))
      (pss_one (ps_ret (pe_tup (pa_cons (pv 2) (pa_cons (pe_op op_shr (pv 0) (pv 2)) (pa_cons (pe_cal C__steps_over (hr.mono (by decide)) (pa_cons (pv 0) (pa_cons (pv 1) (pa_cons (pv 2) pa_nil)))) pa_nil))))))))), ?_⟩
    refine ⟨_, rfl, _, rfl, lo, hi, rfl, hb, ?_⟩
    refine ⟨fun m σ H' => ∃ s : Nat, σ = [some (.int lo), some (.int hi), some (.int s)] ∧ H' = H ∧ s ≤ 8 ∧ m = 8 - s ∧ ∀ t, t < s → 15 < Dd lo hi t, ⟨8, 0, rfl, rfl, by omega, rfl, fun t ht => by omega⟩, ?_⟩
    rintro m σ H' ⟨s, rfl, rfl, h8, em, hbl⟩
    refine ⟨_, rfl, _, rfl, _, rfl, lo, hi, s, rfl, by omega, ?_⟩
    refine ⟨_, _, rfl, rfl, _, rfl, ifd (fun c => ?_) (fun c => ?_)⟩
    · have l8 := lt8 hb (by omega) h8
      refine ⟨_, fun _ _ h => h, ?_⟩
      refine ⟨_, rfl, _, _, rfl, rfl, 8 - (s + 1), by omega, s + 1, rfl, rfl, by omega, rfl, fun t ht => ?_⟩
      rcases Nat.lt_or_ge t s with d | d
      · exact hbl t d
      · have : t = s := by omega
        subst this; omega
    · refine ⟨_, rfl, _, rfl, _, rfl, _, _, rfl, rfl, by omega, ?_⟩
      refine ⟨_, rfl, _, rfl, _, rfl, lo, hi, s, rfl, by omega, ?_⟩
      refine ⟨sz (by simp), fun p hp => ?_⟩
      exact q s p ⟨h8, by omega, hbl⟩ hp

def sp_least_bounds (K : PySem.W.Frag) : Sp := fun vs H Q _ => ∃ lo hi, vs = [.int lo, .int hi] ∧ Bd lo hi ∧ ∀ (s : Nat) p H', StepIs lo hi s → Same H H' → H p = none → H' p = some (.tup [.int (lo / 2 ^ s * 2 ^ s), .int (((hi - 1) / 2 ^ s + 1) * 2 ^ s)]) → Q (.ref p) H'
theorem ok_least_bounds {f : Addr} {fd : FuncData} (F : Fun K "least_bounds" "least_bounds" s_least_bounds f fd) (T : Txt K mg) (C_in_bits : Cal P w K mg base "in_bits" 4 ["low", "high"] (sp_in_bits K)) : FnOk P w K mg base CX0 5 f fd ["low", "high"] (sp_least_bounds K) := by
  refine F.ok sc_least_bounds (fun vs H Q E h => ?_) (fun cdv A outer s H vs Q E hr h => ?_)
  · obtain ⟨lo, hi, rfl, hb, q⟩ := h; rfl
  · obtain ⟨lo, hi, rfl, hb, q⟩ := h
    refine ⟨_, (pss_cons (ps_asg (pe_cal C_in_bits (hr.mono (by decide)) (pa_cons (pv 0) (pa_cons (pv 1) pa_nil))) (pg_tup rfl (pgs_cons (pg_name (i := 2) sc_least_bounds.nd rfl (.inl rfl)) (pgs_cons (pg_name (i := 3) sc_least_bounds.nd rfl (.inl rfl)) (pgs_cons (pg_name (i := 4) sc_least_bounds.nd rfl (.inl rfl)) pgs_nil)))))
      (pss_one (ps_ret (pe_tup (pa_cons (pe_op op_shl (pv 3) (pv 2)) (pa_cons (pe_op op_shl (pe_op op_add (pv 3) (pv 4)) (pv 2)) pa_nil)))))), ?_⟩
    refine ⟨_, rfl, _, rfl, lo, hi, rfl, hb, fun s p hs hp => ?_⟩
    refine ⟨p, _, rfl, .of upd_same, rfl, _, _, rfl, _, _, rfl, _, _, rfl, rfl, ?_⟩
    have h8 := hs.1
    refine ⟨_, rfl, _, rfl, _, _, rfl, rfl, bc hb h8, ?_⟩
    refine ⟨_, rfl, _, rfl, _, _, rfl, rfl, _, rfl, _, _, rfl, rfl, bc2 hb hs, sz (by simp), fun p2 hp2 => ?_⟩
    have n : p ≠ p2 := ne_of_none upd_same hp2
    refine q s p2 _ hs (sameN (same_new hp) hp2) ?_ ?_
    · exact Same.free (same_new hp) hp2
    · rw [upd_same, first_over]; rfl

def sp_is_exact (K : PySem.W.Frag) : Sp := fun vs H Q _ => ∃ lo hi, vs = [.int lo, .int hi] ∧ Bd lo hi ∧ ∀ b H', Same H H' → (b = true ↔ ∃ s, Ex lo hi s) → Q (.bl b) H'
theorem ok_is_exact {f : Addr} {fd : FuncData} (F : Fun K "is_exact" "is_exact" s_is_exact f fd) (T : Txt K mg) (C_least_bounds : Cal P w K mg base "least_bounds" 5 ["low", "high"] (sp_least_bounds K)) : FnOk P w K mg base CX0 6 f fd ["low", "high"] (sp_is_exact K) := by
  refine F.ok sc_is_exact (fun vs H Q E h => ?_) (fun cdv A outer s H vs Q E hr h => ?_)
  · obtain ⟨lo, hi, rfl, hb, q⟩ := h; rfl
  · obtain ⟨lo, hi, rfl, hb, q⟩ := h
    refine ⟨_, (pss_one (ps_ret (pe_cmpR (r := rEqD K) (op_eqD hr.units) (pe_cal C_least_bounds (hr.mono (by decide)) (pa_cons (pv 0) (pa_cons (pv 1) pa_nil))) (pe_tup (pa_cons (pv 0) (pa_cons (pv 1) pa_nil))) (nomark _)))), ?_⟩
    refine ⟨_, rfl, _, rfl, lo, hi, rfl, hb, fun s p H1 hs sm hp hp1 => ?_⟩
    refine ⟨_, rfl, _, rfl, sz (by simp), fun p2 hp2 => ?_⟩
    have n : p ≠ p2 := ne_of_none hp1 hp2
    refine ⟨_, _, dp2 (by walk_at "at"), dp2 upd_same, rfl, rfl, ?_⟩
    refine q _ _ (sameN sm hp2) ?_
    rw [t2_eqv]
    constructor
    · intro e; exact ⟨s, hs, e.1, e.2⟩
    · rintro ⟨t, ht, e1, e2⟩
      have : t = s := ht.uniq hs
      subst this
      exact ⟨e1, e2⟩

def sp__law_take (K : PySem.W.Frag) : Sp := fun vs H Q _ => ∃ (a : Addr) (x y m : Int), vs = [.ref a, .int m] ∧ Pool H a x y ∧ 0 < m ∧ m < 1073741824 ∧ ∀ r x1 y1, 0 ≤ r → r < m → Pool (upd H a (.lst [.int x1, .int y1])) a x1 y1 → Q (.int r) (upd H a (.lst [.int x1, .int y1]))
theorem ok__law_take {f : Addr} {fd : FuncData} (F : Fun K "_law_take" "_law_take" s__law_take f fd) (T : Txt K mg) : FnOk P w K mg base CX0 1 f fd ["_law_pool_here", "_law_many"] (sp__law_take K) := by
  refine F.ok sc__law_take (fun vs H Q E h => ?_) (fun cdv A outer s H vs Q E hr h => ?_)
  · obtain ⟨a, x, y, m, rfl, hp, hm, hm2, q⟩ := h; rfl
  · obtain ⟨a, x, y, m, rfl, hp, hm, hm2, q⟩ := h
    refine ⟨_, (pss_cons (ps_if (pt_cmpR op_gt (pe_ix (r := rIxL K) ix_list (pv 0) pe_int (fun _ _ => rfl)) pe_int (nomark _)) (pss_cons (ps_set (i := 2) sc__law_take.nd rfl (.inl rfl) (pe_op op_mod (pe_ix (r := rIxL K) ix_list (pv 0) pe_int (fun _ _ => rfl)) (pv 1)))
      (pss_cons (ps_asg (pe_op op_fdiv (pe_ix (r := rIxL K) ix_list (pv 0) pe_int (fun _ _ => rfl)) (pv 1)) (pg_sub (pv 0) pe_int set_list))
      (pss_one (ps_ret (pv 2))))) pss_nil)
      (pss_cons (ps_asg (pe_op op_mod (pe_op op_add (pe_op op_mul (pe_ix (r := rIxL K) ix_list (pv 0) pe_int (fun _ _ => rfl)) pe_int) pe_int) pe_int) (pg_sub (pv 0) pe_int set_list))
      (pss_one (ps_ret (pe_op op_mod (pe_op op_fdiv (pe_op op_mod (pe_op op_mul (pe_ix (r := rIxL K) ix_list (pv 0) pe_int (fun _ _ => rfl)) (pe_ix (r := rIxL K) ix_list (pv 0) pe_int (fun _ _ => rfl))) pe_int) pe_int) (pv 1)))))), ?_⟩
    obtain ⟨hp, x0, y0, y1⟩ := hp
    refine ⟨_, rfl, a, _, 0, _, rfl, rfl, .of hp, atI_nat (j := 0) rfl, _, _, rfl, rfl, _, rfl, ifd (fun c => ?_) (fun c => ?_)⟩
    · refine ⟨_, rfl, a, _, 0, _, rfl, rfl, .of hp, atI_nat (j := 0) rfl, _, rfl, _, _, rfl, rfl, hm, ?_⟩
      refine ⟨_, rfl, a, _, 0, _, rfl, rfl, .of hp, atI_nat (j := 0) rfl, _, rfl, _, _, rfl, rfl, ⟨hm, hm2⟩, ?_⟩
      refine ⟨_, rfl, a, _, 0, 0, rfl, rfl, hp, rfl, ?_⟩
      refine ⟨_, rfl, q (x % m) (x / m) y (Int.emod_nonneg _ (by omega)) (Int.emod_lt_of_pos _ hm) ⟨upd_same, Int.ediv_nonneg x0 (by omega), y0, y1⟩⟩
    · refine ⟨_, rfl, a, _, 1, _, rfl, rfl, .of hp, atI_nat (j := 1) rfl, _, _, rfl, rfl, .inr ⟨by decide, by decide⟩, _, _, rfl, rfl, _, _, rfl, rfl, (by show (0 : Int) < _; decide), ?_⟩
      refine ⟨_, rfl, a, _, 1, 1, rfl, rfl, hp, rfl, ?_⟩
      have u1 : 0 ≤ (y * 48271 + 11) % 2147483647 := Int.emod_nonneg _ (by decide)
      have u2 : (y * 48271 + 11) % 2147483647 < 2147483647 := Int.emod_lt_of_pos _ (by decide)
      refine ⟨_, rfl, a, _, 1, _, rfl, rfl, .of upd_same, atI_nat (j := 1) rfl, _, rfl, a, _, 1, _, rfl, rfl, .of upd_same, atI_nat (j := 1) rfl, _, _, rfl, rfl, .inl ⟨by omega, by omega⟩, _, _, rfl, rfl, (by show (0 : Int) < _; decide), _, _, rfl, rfl, ⟨by decide, by decide⟩, _, rfl, _, _, rfl, rfl, hm, ?_⟩
      exact q _ x ((y * 48271 + 11) % 2147483647) (Int.emod_nonneg _ (by omega)) (Int.emod_lt_of_pos _ hm) ⟨upd_same, x0, u1, u2⟩

def sp__law_pool (K : PySem.W.Frag) : Sp := fun vs H Q _ => ∃ (a : Addr) (ns : List Int) (k : Nat), vs = [.ref a, .int k] ∧ SqL K H a (ns.map V.int) ∧ ns.length ≤ 63 ∧ k ≤ 63 ∧ ∀ x y p H', Same H H' → H p = none → Pool H' p x y → Q (.ref p) H'
theorem ok__law_pool {f : Addr} {fd : FuncData} (F : Fun K "_law_pool" "_law_pool" s__law_pool f fd) (T : Txt K mg) : FnOk P w K mg base CX0 1 f fd ["_law_script", "_law_k"] (sp__law_pool K) := by
  refine F.ok sc__law_pool (fun vs H Q E h => ?_) (fun cdv A outer s H vs Q E hr h => ?_)
  · obtain ⟨a, ns, k, rfl, hS, hlen, hk, q⟩ := h; rfl
  · obtain ⟨a, ns, k, rfl, hS, hlen, hk, q⟩ := h
    refine ⟨_, (pss_cons (ps_set (i := 2) sc__law_pool.nd rfl (.inl rfl) (pe_op op_add (pe_op op_mul pe_int (pe_callB (cr_sum rfl) (by rfl) T.z_sum (by decide +kernel) (pa_cons (pe_slice sl_list (pv 0) po_none (po_some pe_int)) pa_nil))) (pv 1)))
      (pss_cons (ps_if (pt_cmpR op_lt (pv 1) (pe_callB call_len_seq (by rfl) T.z_len (by decide +kernel) (pa_cons (pv 0) pa_nil)) (nomark _)) (pss_one (ps_set (i := 2) sc__law_pool.nd rfl (.inl rfl) (pe_ix (r := rIxL K) ix_list (pv 0) (pv 1) (fun _ _ => rfl)))) pss_nil)
      (pss_cons (ps_set (i := 3) sc__law_pool.nd rfl (.inl rfl) (pe_callB call_abs (by rfl) T.z_abs (by decide +kernel) (pa_cons (pv 2) pa_nil)))
      (pss_cons (ps_set (i := 4) sc__law_pool.nd rfl (.inl rfl) (pe_op op_mod (pe_op op_mul (pe_op op_add (pe_op op_add (pe_op op_add (pe_op op_mod (pv 3) pe_int) (pe_op op_mul (pe_op op_mul pe_int (pv 1)) (pv 1))) (pe_op op_mul pe_int (pv 1))) pe_int) pe_int) pe_int))
      (pss_one (ps_ret (pe_lst (pa_cons (pe_op op_mul (pv 3) (pe_callTy call_int1 (by rfl) T.z_int (by decide +kernel) (pa_cons (pe_cmpR op_ge (pv 3) (pe_op op_pow pe_int pe_int) (nomark _)) pa_nil))) (pa_cons (pe_op op_mod (pe_op op_mul (pv 4) (pv 4)) pe_int) pa_nil))))))))), ?_⟩
    refine ⟨_, rfl, _, rfl, a, _, rfl, hS, fun p hp => ?_⟩
    have s1 : Same H (upd H p (.lst (cutV (ns.map V.int) none (some 63)))) := same_new hp
    have hS1 : SqL K (upd H p (.lst (cutV (ns.map V.int) none (some 63)))) a (ns.map V.int) := s1.seq hS
    refine ⟨p, ns, rfl, .of (by rw [upd_same, cut63 hlen]), _, _, rfl, rfl, .inl ⟨by decide, by decide⟩, _, rfl, _, _, rfl, rfl, ?_⟩
    refine ⟨_, rfl, _, rfl, a, _, rfl, .inl hS1, _, _, rfl, rfl, _, rfl, ifd (fun c => ?_) (fun c => ?_)⟩
    · rw [List.length_map] at c
      have hk2 : k < ns.length := by omega
      refine ⟨_, rfl, _, rfl, a, _, (k : Int), .int ns[k], rfl, rfl, hS1, atI_nat (by rw [List.getElem?_map, List.getElem?_eq_getElem hk2]; rfl), ?_⟩
      refine ⟨_, rfl, _, rfl, ?_⟩
      refine ⟨_, rfl, _, _, rfl, rfl, (by show (0 : Int) < _; decide), _, rfl, _, _, rfl, rfl, .inl ⟨by decide, by decide⟩, _, rfl, _, _, rfl, rfl, .inr ⟨by omega, by omega⟩, _, _, rfl, rfl, _, rfl, _, _, rfl, rfl, .inl ⟨by decide, by decide⟩, _, _, rfl, rfl, _, _, rfl, rfl, _, _, rfl, rfl, .inr ⟨by decide, by decide⟩, _, _, rfl, rfl, (by show (0 : Int) < _; decide), ?_⟩
      refine ⟨_, rfl, _, rfl, _, _, rfl, rfl, ⟨by decide, by decide, by decide⟩, _, _, rfl, rfl, .inr ⟨_, rfl, _, _, rfl, rfl, .inr (b01 _), ?_⟩⟩
      refine ⟨_, rfl, _, rfl, _, _, rfl, rfl, .inl (mixb _), _, _, rfl, rfl, (by show (0 : Int) < _; decide), sz (by simp), fun p2 hp2 => ?_⟩
      exact q _ _ p2 _ (sameN s1 hp2) (Same.free s1 hp2) ⟨upd_same, sizeb _ _, Int.emod_nonneg _ (by decide), Int.lt_trans (Int.emod_lt_of_pos _ (by decide)) (by decide)⟩
    · refine ⟨_, rfl, _, rfl, ?_⟩
      refine ⟨_, rfl, _, _, rfl, rfl, (by show (0 : Int) < _; decide), _, rfl, _, _, rfl, rfl, .inl ⟨by decide, by decide⟩, _, rfl, _, _, rfl, rfl, .inr ⟨by omega, by omega⟩, _, _, rfl, rfl, _, rfl, _, _, rfl, rfl, .inl ⟨by decide, by decide⟩, _, _, rfl, rfl, _, _, rfl, rfl, _, _, rfl, rfl, .inr ⟨by decide, by decide⟩, _, _, rfl, rfl, (by show (0 : Int) < _; decide), ?_⟩
      refine ⟨_, rfl, _, rfl, _, _, rfl, rfl, ⟨by decide, by decide, by decide⟩, _, _, rfl, rfl, .inr ⟨_, rfl, _, _, rfl, rfl, .inr (b01 _), ?_⟩⟩
      refine ⟨_, rfl, _, rfl, _, _, rfl, rfl, .inl (mixb _), _, _, rfl, rfl, (by show (0 : Int) < _; decide), sz (by simp), fun p2 hp2 => ?_⟩
      exact q _ _ p2 _ (sameN s1 hp2) (Same.free s1 hp2) ⟨upd_same, sizeb _ _, Int.emod_nonneg _ (by decide), Int.lt_trans (Int.emod_lt_of_pos _ (by decide)) (by decide)⟩

def sp__law_least (K : PySem.W.Frag) : Sp := fun vs H Q _ => ∃ lo hi, vs = [.int lo, .int hi] ∧ Bd lo hi ∧ ∀ (s : Nat) p, StepIs lo hi s → H p = none → Q (.ref p) (upd H p (.tup [.int (lo / 2 ^ s * 2 ^ s), .int (((hi - 1) / 2 ^ s + 1) * 2 ^ s), .int s]))
theorem ok__law_least {f : Addr} {fd : FuncData} (F : Fun K "_law_least" "_law_least" s__law_least f fd) (T : Txt K mg) : FnOk P w K mg base CX0 1 f fd ["_law_low", "_law_high"] (sp__law_least K) := by
  refine F.ok sc__law_least (fun vs H Q E h => ?_) (fun cdv A outer s H vs Q E hr h => ?_)
  · obtain ⟨lo, hi, rfl, hb, q⟩ := h; rfl
  · obtain ⟨lo, hi, rfl, hb, q⟩ := h
    refine ⟨_, (pss_cons (ps_set (i := 2) sc__law_least.nd rfl (.inl rfl) pe_int)
      (pss_cons (ps_while PassesOwn.never (pt_cmpR op_gt (pe_op op_sub (pe_op op_shr (pe_op op_sub (pv 1) pe_int) (pv 2)) (pe_op op_shr (pv 0) (pv 2))) pe_int (nomark _)) (pss_one (ps_set (i := 2) sc__law_least.nd rfl (.inl rfl) (pe_op op_add (pv 2) pe_int))))
      (pss_one (ps_ret (pe_tup (pa_cons (pe_op op_shl (pe_op op_shr (pv 0) (pv 2)) (pv 2)) (pa_cons (pe_op op_shl (pe_op op_add (pe_op op_shr (pe_op op_sub (pv 1) pe_int) (pv 2)) pe_int) (pv 2)) (pa_cons (pv 2) pa_nil)))))))), ?_⟩
    refine ⟨fun m σ H' => ∃ s : Nat, σ = [some (.int lo), some (.int hi), some (.int s)] ∧ H' = H ∧ s ≤ 8 ∧ m = 8 - s ∧ ∀ t, t < s → 15 < Dd lo hi t, ⟨8, 0, rfl, rfl, by omega, rfl, fun t ht => by omega⟩, ?_⟩
    rintro m σ H' ⟨s, rfl, rfl, h8, em, hbl⟩
    refine ⟨_, rfl, _, _, rfl, rfl, _, rfl, _, _, rfl, rfl, by omega, _, rfl, _, rfl, _, _, rfl, rfl, by omega, _, _, rfl, rfl, _, _, rfl, rfl, _, rfl, ifd (fun c => ?_) (fun c => ?_)⟩
    · have c2 : 15 < Dd lo hi s := c
      have l8 := lt8 hb c2 h8
      refine ⟨_, fun _ _ h => h, ?_⟩
      refine ⟨_, rfl, _, _, rfl, rfl, 8 - (s + 1), by omega, s + 1, rfl, rfl, by omega, rfl, fun t ht => ?_⟩
      rcases Nat.lt_or_ge t s with d | d
      · exact hbl t d
      · have : t = s := by omega
        subst this; exact c2
    · have c2 : ¬ 15 < Dd lo hi s := c
      refine ⟨_, rfl, _, rfl, _, _, rfl, rfl, by omega, _, rfl, _, _, rfl, rfl, bc hb h8, _, rfl, _, _, rfl, rfl, _, rfl, _, _, rfl, rfl, by omega, _, _, rfl, rfl, _, rfl, _, _, rfl, rfl, bc4 hb h8, _, rfl, sz (by simp), fun p hp => ?_⟩
      exact q s p ⟨h8, by omega, hbl⟩ hp

def sp__law_all_told (K : PySem.W.Frag) : Sp := fun vs H Q _ => ∃ m, vs = [.int m] ∧ 0 ≤ m ∧ m ≤ 4096 ∧ ∀ p H' kvs, Same H H' → H p = none → H' p = some (.dT kvs) → Snd kvs m → Cmp kvs m 9 0 0 → Q (.ref p) H'
theorem ok__law_all_told {f : Addr} {fd : FuncData} (F : Fun K "_law_all_told" "_law_all_told" s__law_all_told f fd) (T : Txt K mg) : FnOk P w K mg base CX0 1 f fd ["_law_most"] (sp__law_all_told K) := by
  refine F.ok sc__law_all_told (fun vs H Q E h => ?_) (fun cdv A outer s H vs Q E hr h => ?_)
  · obtain ⟨m, rfl, m0, m1, q⟩ := h; rfl
  · obtain ⟨m, rfl, m0, m1, q⟩ := h
    refine ⟨_, (pss_cons (ps_set (i := 1) sc__law_all_told.nd rfl (.inl rfl) pe_dnewT)
      (pss_cons (ps_for PassesOwn.never rfl (pi_range1 (by rfl) T.z_range (pa_cons pe_int pa_nil)) (pg_name (i := 2) sc__law_all_told.nd rfl (.inl rfl)) (pss_one (ps_for PassesOwn.never rfl (pi_range1 (by rfl) T.z_range (pa_cons (pe_op op_add (pe_op op_shr (pv 0) (pv 2)) pe_int) pa_nil)) (pg_name (i := 3) sc__law_all_told.nd rfl (.inl rfl)) (pss_one (ps_for PassesOwn.never rfl (pi_range2 (by rfl) T.z_range (pa_cons pe_int (pa_cons pe_int pa_nil))) (pg_name (i := 4) sc__law_all_told.nd rfl (.inl rfl)) (pss_one (ps_if (pt_cmpR op_le (pe_op op_shl (pe_op op_add (pv 3) (pv 4)) (pv 2)) (pv 0) (nomark _)) (pss_one (ps_dput (hu_of hr) (pv 1) (pe_tup (pa_cons (pe_op op_shl (pv 3) (pv 2)) (pa_cons (pe_op op_shl (pe_op op_add (pv 3) (pv 4)) (pv 2)) pa_nil))) pe_bl rfl)) pss_nil)))))))
      (pss_one (ps_ret (pv 1))))), ?_⟩
    refine fun d hd => ?_
    refine ⟨9, rfl, by decide, by decide, for_range (n := 9) (fun i σ H' => ∃ kvs x2 x3 x4, σ = [some (.int m), some (.ref d), x2, x3, x4] ∧ Same H H' ∧ H' d = some (.dT kvs) ∧ Snd kvs m ∧ Cmp kvs m i 0 0 ∧ kvs.length ≤ i * 70000) ⟨[], none, none, none, rfl, same_new hd, upd_same, ⟨fun _ _ z => absurd rfl z, fun e he => nomatch he⟩, fun s f c f0 c1 c16 hm hw => by omega, Nat.le_refl _⟩ ?_ ?_⟩
    · rintro i σ H1 hi ⟨kvs, x2, x3, x4, rfl, sm, hk, hs, hc, hl⟩
      rw [i0]
      have dm := div_le' (s := i) m0
      refine ⟨_, rfl, _, rfl, _, _, rfl, rfl, by omega, _, _, rfl, rfl, _, rfl, (by show -(2 ^ 62) ≤ m / 2 ^ i + 1; omega), (by show m / 2 ^ i + 1 < 2 ^ 62; omega), for_range (n := (m / 2 ^ i + 1).toNat) (fun j σ H' => ∃ kvs x3 x4, σ = [some (.int m), some (.ref d), some (.int (i : Int)), x3, x4] ∧ Same H H' ∧ H' d = some (.dT kvs) ∧ Snd kvs m ∧ Cmp kvs m i j 0 ∧ kvs.length ≤ i * 70000 + j * 16) ⟨kvs, _, _, rfl, sm, hk, hs, hc, Nat.le_trans hl (Nat.le_add_right _ _)⟩ ?_ ?_⟩
      · clear hk hs hc hl sm kvs
        rintro j σ H2 hj ⟨kvs, x3, x4, rfl, sm, hk, hs, hc, hl⟩
        rw [i0]
        refine ⟨1, 17, rfl, ⟨by decide, by decide, by decide, by decide⟩, for_range (lo := 1) (n := 16) (fun k σ H' => ∃ kvs x4, σ = [some (.int m), some (.ref d), some (.int (i : Int)), some (.int (j : Int)), x4] ∧ Same H H' ∧ H' d = some (.dT kvs) ∧ Snd kvs m ∧ Cmp kvs m i j k ∧ kvs.length ≤ i * 70000 + j * 16 + k) ⟨kvs, _, rfl, sm, hk, hs, hc, Nat.le_trans hl (Nat.le_add_right _ _)⟩ ?_ ?_⟩
        · clear hk hs hc hl sm kvs
          rintro k σ H3 hk16 ⟨kvs, x4, rfl, sm, hk, hs, hc, hl⟩
          rw [show (1 : Int) + (k : Int) = (k : Int) + 1 by omega]
          have cp2 : CPow ((j : Int) + ((k : Int) + 1)) (i : Int) := ⟨by omega, by omega, na (by omega) (by omega)⟩
          refine ⟨_, rfl, _, rfl, _, _, rfl, rfl, _, rfl, _, _, rfl, rfl, cp2, _, rfl, _, _, rfl, rfl, _, rfl, ifd (fun c => ?_) (fun c => ?_)⟩
          · have c2 : ((j : Int) + ((k : Int) + 1)) * 2 ^ i ≤ m := c
            refine ⟨_, rfl, _, rfl, _, rfl, _, _, rfl, rfl, ⟨by omega, by omega, na (by omega) (by omega)⟩, _, rfl, _, rfl, _, _, rfl, rfl, _, rfl, _, _, rfl, rfl, cp2, sz (by simp), fun T hT => ?_⟩
            have nd : d ≠ T := ne_of_none hk hT
            refine ⟨d, _, rfl, DPut.t (k := key2 ((j : Int) * 2 ^ i) (((j : Int) + ((k : Int) + 1)) * 2 ^ i)) (by rw [upd_ne nd]; exact hk) upd_same (Nat.lt_of_le_of_lt hl (by rw [sizeLine_eq]; omega)), ?_⟩
            refine ⟨_, _, rfl, fun b o e => ?_, upd_same, hs.put (by omega) (by omega) (by omega) (by omega) c2, hc.put, ?_⟩
            · have n1 : b ≠ d := ne_of_none e hd
              have n2 : b ≠ T := ne_of_none (sm b o e) hT
              rw [upd_ne n1, upd_ne n2]; exact sm b o e
            · have := length_putK kvs (key2 ((j : Int) * 2 ^ i) (((j : Int) + ((k : Int) + 1)) * 2 ^ i)) (.bl true)
              exact Nat.le_trans this (Nat.succ_le_succ hl)
          · have c2 : ¬ ((j : Int) + ((k : Int) + 1)) * 2 ^ i ≤ m := c
            exact ⟨kvs, _, rfl, sm, hk, hs, hc.skip c2, Nat.le_succ_of_le hl⟩
        · rintro σ H3 ⟨kvs, x4, rfl, sm, hk, hs, hc, hl⟩
          exact ⟨kvs, _, _, rfl, sm, hk, hs, hc.next, len1 hl⟩
      · rintro σ H2 ⟨kvs, x3, x4, rfl, sm, hk, hs, hc, hl⟩
        have et : (((m / 2 ^ i + 1).toNat : Nat) : Int) = m / 2 ^ i + 1 := by omega
        rw [et] at hc
        exact ⟨kvs, _, _, _, rfl, sm, hk, hs, hc.up, len2 hl (by clear hl; omega)⟩
    · rintro σ H1 ⟨kvs, x2, x3, x4, rfl, sm, hk, hs, hc, hl⟩
      exact ⟨_, rfl, q d H1 kvs sm hd hk hs hc⟩

def sp__law_bits_so (K : PySem.W.Frag) : Sp := fun vs H Q _ => ∃ (lo hi : Int) (p : Addr) (s f c : Int), vs = [.int lo, .int hi, .ref p] ∧ H p = some (.tup [.int s, .int f, .int c]) ∧ 0 ≤ s ∧ s ≤ 8 ∧ 1 ≤ c ∧ c ≤ 16 ∧ (s = 0 ∨ 9 ≤ c) ∧ 0 ≤ f ∧ f ≤ 4096 ∧ f * 2 ^ s.toNat = lo ∧ (f + c) * 2 ^ s.toNat = hi ∧ ∀ H', Same H H' → Q (.bl true) H'
theorem ok__law_bits_so {f : Addr} {fd : FuncData} (F : Fun K "_law_bits_so" "_law_bits_so" s__law_bits_so f fd) (T : Txt K mg) : FnOk P w K mg base CX0 1 f fd ["_law_low", "_law_high", "_law_some"] (sp__law_bits_so K) := by
  refine F.ok sc__law_bits_so (fun vs H Q E h => ?_) (fun cdv A outer s H vs Q E hr h => ?_)
  · obtain ⟨lo, hi, p, s1, f1, c, rfl, hp, s0, s8, c1, c16, h9, f0, f4, e1, e2, q⟩ := h; rfl
  · obtain ⟨lo, hi, p, s1, f1, c, rfl, hp, s0, s8, c1, c16, h9, f0, f4, e1, e2, q⟩ := h
    refine ⟨_, (pss_cons (ps_asg (pv 2) (pg_tup rfl (pgs_cons (pg_name (i := 3) sc__law_bits_so.nd rfl (.inl rfl)) (pgs_cons (pg_name (i := 4) sc__law_bits_so.nd rfl (.inl rfl)) (pgs_cons (pg_name (i := 5) sc__law_bits_so.nd rfl (.inl rfl)) pgs_nil)))))
      (pss_cons (ps_if (PW.pt (pw_or (pt_not (pt_chain op_le op_le pe_int (pv 3) pe_int)) (pw_or (pt_not (pt_chain op_le op_le pe_int (pv 5) pe_int)) (pw_or1 (PW.pt (pw_and (pt_cmpR op_gt (pv 3) pe_int (nomark _)) (pw_and1 (pt_cmpR op_lt (pv 5) pe_int (nomark _))))))))) (pss_one (ps_ret pe_bl)) pss_nil)
      (pss_one (ps_ret (pe_cmpR (r := rEqD K) (op_eqD hr.units) (pe_tup (pa_cons (pe_op op_shl (pv 4) (pv 3)) (pa_cons (pe_op op_shl (pe_op op_add (pv 4) (pv 5)) (pv 3)) pa_nil))) (pe_tup (pa_cons (pv 0) (pa_cons (pv 1) pa_nil))) (nomark _)))))), ?_⟩
    refine ⟨_, rfl, p, _, rfl, .of hp, rfl, _, _, rfl, _, _, rfl, _, _, rfl, rfl, ?_⟩
    refine ⟨_, rfl, _, _, rfl, rfl, _, rfl, ifP s0 ⟨_, _, rfl, rfl, _, rfl, ifnd (fun z => absurd s8 z) (fun _ => ?_)⟩⟩
    refine ⟨_, rfl, _, _, rfl, rfl, _, rfl, ifP c1 ⟨_, _, rfl, rfl, _, rfl, ifnd (fun z => absurd c16 z) (fun _ => ?_)⟩⟩
    have cpa : CPow f1 s1 := ⟨s0, by omega, na f0 (by omega)⟩
    have cpb : CPow (f1 + c) s1 := ⟨s0, by omega, na (by omega) (by omega)⟩
    have fin : tRet (tOp (rEqD K) (tTup (tCons (tOp (rI CPow fun i j => .int (i * 2 ^ j.toNat)) (tVar 4) (tVar 3)) (tCons (tOp (rI CPow fun i j => .int (i * 2 ^ j.toNat)) (tOp (rI0 fun i j => .int (i + j)) (tVar 4) (tVar 5)) (tVar 3)) tNil))) (tTup (tCons (tVar 0) (tCons (tVar 1) tNil)))) { nx := fun _ H' => Q .non H', rt := Q } [some (.int lo), some (.int hi), some (.ref p), some (.int s1), some (.int f1), some (.int c)] H := by
      refine ⟨_, rfl, _, rfl, _, _, rfl, rfl, cpa, _, rfl, _, rfl, _, _, rfl, rfl, _, rfl, _, _, rfl, rfl, cpb, sz (by simp), fun p1 hp1 => ⟨_, rfl, _, rfl, sz (by simp), fun p2 hp2 => ?_⟩⟩
      have n12 : p1 ≠ p2 := ne_of_none upd_same hp2
      refine ⟨_, _, dp2 (show (upd (upd H p1 _) p2 _) p1 = _ by rw [upd_ne n12, upd_same]), dp2 upd_same, rfl, rfl, ?_⟩
      rw [t2_eqv.mpr ⟨e1, e2⟩]
      exact q _ (sameN (same_new hp1) hp2)
    refine ⟨_, rfl, _, _, rfl, rfl, _, rfl, ifd (fun z => ?_) (fun z => ?_)⟩
    · have z2 : 0 < s1 := z
      refine ⟨_, rfl, _, _, rfl, rfl, _, rfl, ifN (show ¬ c < 9 by omega) ?_⟩
      exact fin
    · exact fin

def sp__law_small_so (K : PySem.W.Frag) : Sp := fun vs H Q _ => ∃ (lo hi : Int) (d : Addr) (kvs : List (List Key × V)), vs = [.int lo, .int hi, .ref d] ∧ H d = some (.dT kvs) ∧ Snd kvs 128 ∧ Cmp kvs 128 9 0 0 ∧ Bd lo hi ∧ hi ≤ 96 ∧ ∀ H', Same H H' → Q (.bl true) H'
theorem ok__law_small_so {f : Addr} {fd : FuncData} (F : Fun K "_law_small_so" "_law_small_so" s__law_small_so f fd) (T : Txt K mg) (C_in_bits : Cal P w K mg base "in_bits" 4 ["low", "high"] (sp_in_bits K)) (C_least_bounds : Cal P w K mg base "least_bounds" 5 ["low", "high"] (sp_least_bounds K)) (C_is_exact : Cal P w K mg base "is_exact" 6 ["low", "high"] (sp_is_exact K)) (C__law_bits_so : Cal P w K mg base "_law_bits_so" 1 ["_law_low", "_law_high", "_law_some"] (sp__law_bits_so K)) : FnOk P w K mg base CX0 7 f fd ["_law_low", "_law_high", "_law_every"] (sp__law_small_so K) := by
  refine F.ok sc__law_small_so (fun vs H Q E h => ?_) (fun cdv A outer s H vs Q E hr h => ?_)
  · obtain ⟨lo, hi, d, kvs, rfl, hd, hs, hc, bd, h96, q⟩ := h; rfl
  · obtain ⟨lo, hi, d, kvs, rfl, hd, hs, hc, bd, h96, q⟩ := h
    refine ⟨_, (pss_cons (ps_set (i := 3) sc__law_small_so.nd rfl (.inl rfl) (pe_cal C_least_bounds (hr.mono (by decide)) (pa_cons (pv 0) (pa_cons (pv 1) pa_nil))))
      (pss_cons (ps_if (PW.pt (pw_or (pt_not (pt_val (pe_callB call_isi (by rfl) T.z_isinstance (by decide +kernel) (pa_cons (pv 3) (pa_cons (pe_bltn (v := .ty "tuple") (by rfl) T.z_tuple (by decide +kernel) rfl) pa_nil))))) (pw_or (pt_cmp (pc_dnotin (hu_of hr) (pv 3) (pv 2)) (by rfl)) (pw_or1 (pt_not (pt_chain3 op_le op_lt op_le (pe_ix (r := rIxT K) ix_tup (pv 3) pe_int (fun _ _ => rfl)) (pv 0) (pv 1) (pe_ix (r := rIxT K) ix_tup (pv 3) pe_int (fun _ _ => rfl)))))))) (pss_one (ps_ret pe_bl)) pss_nil)
      (pss_cons (ps_lock (ps_for PassesOwn.never rfl (pi_keys (pv 2)) (pg_tup rfl (pgs_cons (pg_name (i := 4) sc__law_small_so.nd rfl (.inl rfl)) (pgs_cons (pg_name (i := 5) sc__law_small_so.nd rfl (.inl rfl)) pgs_nil))) (pss_one (ps_if (PW.pt (pw_and (pt_cmpR op_le (pv 4) (pv 0) (nomark _)) (pw_and (pt_cmpR op_le (pv 1) (pv 5) (nomark _)) (pw_and1 (pt_not (PW.pt (pw_and (pt_cmpR op_le (pv 4) (pe_ix (r := rIxT K) ix_tup (pv 3) pe_int (fun _ _ => rfl)) (nomark _)) (pw_and1 (pt_cmpR op_le (pe_ix (r := rIxT K) ix_tup (pv 3) pe_int (fun _ _ => rfl)) (pv 5) (nomark _)))))))))) (pss_one (ps_ret pe_bl)) pss_nil))))
      (pss_cons (ps_if (PW.pt (pw_or (PW.pt (pw_and (pt_cmpR op_isnot_bl (pe_cal C_is_exact (hr.mono (by decide)) (pa_cons (pv 0) (pa_cons (pv 1) pa_nil))) pe_bl (nomark _)) (pw_and1 (pt_cmp (pc_din (hu_of hr) (pe_tup (pa_cons (pv 0) (pa_cons (pv 1) pa_nil))) (pv 2)) (by rfl))))) (pw_or1 (PW.pt (pw_and (pt_val (pe_cal C_is_exact (hr.mono (by decide)) (pa_cons (pv 0) (pa_cons (pv 1) pa_nil)))) (pw_and1 (pt_cmp (pc_dnotin (hu_of hr) (pe_tup (pa_cons (pv 0) (pa_cons (pv 1) pa_nil))) (pv 2)) (by rfl)))))))) (pss_one (ps_ret pe_bl)) pss_nil)
      (pss_one (ps_ret (pe_cal C__law_bits_so (hr.mono (by decide)) (pa_cons (pe_ix (r := rIxT K) ix_tup (pv 3) pe_int (fun _ _ => rfl)) (pa_cons (pe_ix (r := rIxT K) ix_tup (pv 3) pe_int (fun _ _ => rfl)) (pa_cons (pe_cal C_in_bits (hr.mono (by decide)) (pa_cons (pv 0) (pa_cons (pv 1) pa_nil))) pa_nil)))))))))), ?_⟩
    refine ⟨_, rfl, _, rfl, lo, hi, rfl, bd, fun s p H1 hst s1 hp hp1 => ?_⟩
    have lf := least_facts bd hst
    have hd1 := s1 _ _ hd
    have npd : p ≠ d := fun e => by subst e; rw [hp] at hd; cases hd
    refine ⟨_, rfl, _, _, _, _, true, rfl, .ty "tuple", .base (.tup hp1), kit_ty (by decide +kernel), true, rfl, ?_⟩
    refine ⟨_, rfl, _, rfl, d, _, rfl, DGet.t (k := key2 (lo / 2 ^ s * 2 ^ s) (((hi - 1) / 2 ^ s + 1) * 2 ^ s)) hd1 hp1, _, rfl, ifnb (fun e => absurd (some_of (cmp_least hc bd h96 hst)) (by rw [e]; exact Bool.false_ne_true)) (fun _ => ?_)⟩
    refine ⟨_, rfl, p, _, 0, _, rfl, rfl, .of hp1, atI_nat (j := 0) rfl, _, rfl, _, _, rfl, rfl, _, rfl, ifP lf.1 ⟨_, rfl, _, _, rfl, rfl, _, rfl, ifP bd.2.1 ⟨_, rfl, p, _, 1, _, rfl, rfl, .of hp1, atI_nat (j := 1) rfl, _, _, rfl, rfl, _, rfl, ifnd (fun z => absurd lf.2.1 z) (fun _ => ?_)⟩⟩⟩
    refine ⟨d, .dT kvs, hd1, trivial, fun od => ?_⟩
    have hp2 : (upd H1 d (.frz od (.dT kvs))) p = some (.tup [.int (lo / 2 ^ s * 2 ^ s), .int (((hi - 1) / 2 ^ s + 1) * 2 ^ s)]) := by rw [upd_ne npd]; exact hp1
    refine ⟨_, rfl, d, od, rfl, .inr ⟨kvs, upd_same, for_it (walk_keysT (d := d) (o := od) (kvs := kvs)) (fun i σ H' => ∃ v4 v5, σ = [some (.int lo), some (.int hi), some (.ref d), some (.ref p), v4, v5] ∧ H' = upd H1 d (.frz od (.dT kvs))) ⟨_, _, rfl, rfl⟩ (fun i σ H' _ ⟨_, _, _, e⟩ => by rw [e]; exact upd_same) ?_ ?_⟩⟩
    · rintro i x σ H2 H3 hi' ⟨v4, v5, rfl, rfl⟩ ⟨rfl, ky, v, qd, hk, rfl, hq⟩
      have mem : (ky, v) ∈ kvs := List.mem_of_getElem? hk
      obtain ⟨a, b, ek⟩ := hs.2 _ mem
      have ek' : ky = key2 a b := ek
      subst ek'
      have tl : Tol a b := by
        refine (hs.1 a b fun z => ?_).1
        have h1 := valV_any (key2 a b) kvs
        rw [z] at h1
        have h2 : (kvs.any fun kv => decide (kv.1 = key2 a b)) = true := List.any_eq_true.mpr ⟨_, mem, decide_eq_true rfl⟩
        rw [h2] at h1
        cases h1
      refine ⟨qd, [.int a, .int b], rfl, .of hq, rfl, _, _, rfl, _, _, rfl, rfl, ?_⟩
      refine ⟨_, rfl, _, rfl, _, _, rfl, rfl, _, rfl, ifd (fun c1 => ?_) (fun c1 => ⟨_, _, rfl, rfl⟩)⟩
      refine ⟨_, rfl, _, rfl, _, _, rfl, rfl, _, rfl, ifd (fun c2 => ?_) (fun c2 => ⟨_, _, rfl, rfl⟩)⟩
      have ti := tol_in tl c1 bd.2.1 c2 hst
      refine ⟨_, rfl, _, rfl, p, _, 0, _, rfl, rfl, .of hp2, atI_nat (j := 0) rfl, _, _, rfl, rfl, _, rfl, ifP ti.1 ⟨_, rfl, p, _, 1, _, rfl, rfl, .of hp2, atI_nat (j := 1) rfl, _, rfl, _, _, rfl, rfl, _, rfl, ifnd (fun z => absurd ti.2 z) (fun _ => ⟨_, _, rfl, rfl⟩)⟩⟩
    rintro σ H2 ⟨v4, v5, rfl, rfl⟩
    refine ⟨upd_same, ?_⟩
    rw [upd_upd, upd_self hd1]
    have ei := exact_in hs hc bd h96 hst
    have fin : ∀ H', Same H H' → H' p = some (.tup [.int (lo / 2 ^ s * 2 ^ s), .int (((hi - 1) / 2 ^ s + 1) * 2 ^ s)]) → tRet (tCall (sp__law_bits_so K) [] E0 (tCons (tOp (rIxT K) (tVar 3) (tC (.int 0))) (tCons (tOp (rIxT K) (tVar 3) (tC (.int 1))) (tCons (tCall (sp_in_bits K) [] E0 (tCons (tVar 0) (tCons (tVar 1) tNil))) tNil)))) { nx := fun _ H' => Q .non H', rt := Q } [some (.int lo), some (.int hi), some (.ref d), some (.ref p), v4, v5] H' := fun H' sm hpp => by
      refine ⟨_, rfl, p, _, 0, _, rfl, rfl, .of hpp, atI_nat (j := 0) rfl, _, rfl, p, _, 1, _, rfl, rfl, .of hpp, atI_nat (j := 1) rfl, _, rfl, _, rfl, lo, hi, rfl, bd, fun s2 pb hs2 hpb => ?_⟩
      have e2 : s = s2 := hst.uniq hs2
      subst e2
      refine ⟨_, _, pb, s, lo / 2 ^ s, Dd lo hi s + 1, rfl, upd_same, by omega, by have := hst.1; omega, lf.2.2.2.2.1, lf.2.2.2.2.2.1, by have := lf.2.2.2.2.2.2; omega, lf.2.2.1, lf.2.2.2.1, rfl, ?_, fun H3 s3 => q H3 ((sameN sm hpb).trans s3)⟩
      show (lo / 2 ^ s + (Dd lo hi s + 1)) * 2 ^ s = _
      rw [first_over]
    refine ⟨_, rfl, _, rfl, lo, hi, rfl, bd, fun b H2 s2 hb => ⟨_, _, rfl, rfl, _, rfl, ?_⟩⟩
    have S2 := s1.trans s2
    cases b with
    | true =>
      refine ⟨_, rfl, _, rfl, lo, hi, rfl, bd, fun b2 H3 s3 hb2 => ⟨_, rfl, ?_⟩⟩
      have eb2 : b2 = true := hb2.mpr (hb.mp rfl)
      subst eb2
      refine ⟨_, rfl, _, rfl, sz (by simp), fun T hT => ?_⟩
      have ndT : d ≠ T := ne_of_none (s3 _ _ (S2 _ _ hd)) hT
      refine ⟨_, rfl, d, _, rfl, DGet.t (k := key2 lo hi) (by rw [upd_ne ndT]; exact s3 _ _ (S2 _ _ hd)) upd_same, _, rfl, ifnb (fun e => absurd (some_of (ei.mp (hb.mp rfl))) (by rw [e]; exact Bool.false_ne_true)) (fun _ => ?_)⟩
      exact fin _ (sameN (S2.trans s3) hT) (by rw [upd_ne (ne_of_none (s3 _ _ (s2 _ _ hp1)) hT)]; exact s3 _ _ (s2 _ _ hp1))
    | false =>
      have no : ¬ valV kvs (key2 lo hi) ≠ none := fun z => by have := hb.mpr (ei.mpr z); cases this
      refine ⟨_, rfl, _, rfl, sz (by simp), fun T hT => ?_⟩
      have ndT : d ≠ T := ne_of_none (S2 _ _ hd) hT
      refine ⟨_, rfl, d, _, rfl, DGet.t (k := key2 lo hi) (by rw [upd_ne ndT]; exact S2 _ _ hd) upd_same, _, rfl, ?_⟩
      rw [none_of no]
      refine ⟨_, rfl, _, rfl, lo, hi, rfl, bd, fun b2 H3 s3 hb2 => ⟨_, rfl, ?_⟩⟩
      have eb2 : b2 = false := by
        cases b2 with
        | false => rfl
        | true => have := hb.mpr (hb2.mp rfl); cases this
      subst eb2
      exact fin _ ((sameN S2 hT).trans s3) (s3 _ _ (by rw [upd_ne (ne_of_none (s2 _ _ hp1) hT)]; exact s2 _ _ hp1))

theorem ok_law {f : Addr} {oc kV dc pm cdv ct : Value} {od an : Option Addr} {osl : Array (Option Value)} (lk : K.lookup f = some ⟨oc, od, .func (PySem.W.fnOf "law" "law" (defArgs s_law) (defBody s_law) (defScope s_law) .none kV dc pm an cdv ct), osl⟩) (hcd : PySem.W.codeIn K cdv "law" = true) (T : Txt K mg) (C_in_bits : Cal P w K mg base "in_bits" 4 ["low", "high"] (sp_in_bits K)) (C_least_bounds : Cal P w K mg base "least_bounds" 5 ["low", "high"] (sp_least_bounds K)) (C_is_exact : Cal P w K mg base "is_exact" 6 ["low", "high"] (sp_is_exact K)) (C__law_take : Cal P w K mg base "_law_take" 1 ["_law_pool_here", "_law_many"] (sp__law_take K)) (C__law_pool : Cal P w K mg base "_law_pool" 1 ["_law_script", "_law_k"] (sp__law_pool K)) (C__law_least : Cal P w K mg base "_law_least" 1 ["_law_low", "_law_high"] (sp__law_least K)) (C__law_all_told : Cal P w K mg base "_law_all_told" 1 ["_law_most"] (sp__law_all_told K)) (C__law_bits_so : Cal P w K mg base "_law_bits_so" 1 ["_law_low", "_law_high", "_law_some"] (sp__law_bits_so K)) (C__law_small_so : Cal P w K mg base "_law_small_so" 7 ["_law_low", "_law_high", "_law_every"] (sp__law_small_so K)) {s : Shared} {H : Hp} {a : Addr} {ns : List Int} (e0 : Env0 P w K mg base callerA [] s H) (hS : SqL K H a (ns.map V.int)) (hlen : ns.length ≤ 63) :
    codeAny (model P w) callerA (.call (.ref f) ⟨[.ref a], []⟩) (CR CX0 [] P w H s (fun v _ => v = .bl true) fun _ _ _ => False) s := by
  have hr : Room 7 (callerA.deeper (envOfC "law" (defScope s_law) s.heap.objs.size f cdv)) := Room.deeper (k := 7) ⟨rfl, by decide, by decide⟩ _
  have gd : (callerA.deeper (envOfC "law" (defScope s_law) s.heap.objs.size f cdv)).guards = some [] := caller_guards
  generalize hQ : (fun (v : V) (_ : Hp) => v = V.bl true) = Q
  have q : ∀ H', Q (.bl true) H' := fun _ => by rw [← hQ]
  refine body_at (N := ["_law_script", "_law_every", "_law_k", "_law_pool_here", "_law_low", "_law_high", "_law_turn", "_law_due"]) (ps := ["_law_script"]) (vs := [.ref a]) (us := [.ref a]) lk hcd sc_law rfl (k := 7) ⟨rfl, by decide, by decide⟩ e0 (.of_eq rfl) (.cons rfl .nil) ?_
  refine ⟨_, PSs.nox (pss_cons (ps_set (i := 1) sc_law.nd rfl (.inl rfl) (pe_cal C__law_all_told (hr.mono (by decide)) (pa_cons pe_int pa_nil)))
      (pss_cons (ps_for PassesOwn.never rfl (pi_range1 (by rfl) T.z_range (pa_cons (pe_callB (call_max2 rfl) (by rfl) T.z_max (by decide +kernel) (pa_cons pe_int (pa_cons (pe_callB (call_min2 rfl) (by rfl) T.z_min (by decide +kernel) (pa_cons (pe_callB call_len_seq (by rfl) T.z_len (by decide +kernel) (pa_cons (pv 0) pa_nil)) (pa_cons pe_int pa_nil))) pa_nil))) pa_nil)) (pg_name (i := 2) sc_law.nd rfl (.inl rfl)) (pss_cons (ps_set (i := 3) sc_law.nd rfl (.inl rfl) (pe_cal C__law_pool (hr.mono (by decide)) (pa_cons (pv 0) (pa_cons (pv 2) pa_nil))))
      (pss_cons (ps_set (i := 4) sc_law.nd rfl (.inl rfl) (pe_cal C__law_take (hr.mono (by decide)) (pa_cons (pv 3) (pa_cons pe_int pa_nil))))
      (pss_cons (ps_set (i := 5) sc_law.nd rfl (.inl rfl) (pe_op op_add (pe_op op_add (pv 4) pe_int) (pe_cal C__law_take (hr.mono (by decide)) (pa_cons (pv 3) (pa_cons (pe_op op_sub pe_int (pv 4)) pa_nil)))))
      (pss_cons (ps_if (pt_not (pt_val (pe_cal C__law_small_so (hr.mono (by decide)) (pa_cons (pv 4) (pa_cons (pv 5) (pa_cons (pv 1) pa_nil)))))) (pss_one (ps_ret pe_bl)) pss_nil)
      (pss_one (ps_for PassesOwn.never rfl (pi_range1 (by rfl) T.z_range (pa_cons pe_int pa_nil)) (pg_name (i := 6) sc_law.nd rfl (.inl rfl)) (pss_cons (ps_set (i := 4) sc_law.nd rfl (.inl rfl) (pe_ix (r := rIxL K) ix_list (pe_lst (pa_cons pe_int (pa_cons (pe_cal C__law_take (hr.mono (by decide)) (pa_cons (pv 3) (pa_cons pe_int pa_nil))) (pa_cons pe_int (pa_cons pe_int pa_nil))))) (pe_cal C__law_take (hr.mono (by decide)) (pa_cons (pv 3) (pa_cons pe_int pa_nil))) (fun _ _ => rfl)))
      (pss_cons (ps_set (i := 5) sc_law.nd rfl (.inl rfl) (pe_op op_add (pe_op op_add (pv 4) pe_int) (pe_ix (r := rIxL K) ix_list (pe_lst (pa_cons pe_int (pa_cons (pe_cal C__law_take (hr.mono (by decide)) (pa_cons (pv 3) (pa_cons (pe_op op_sub pe_int (pv 4)) pa_nil))) (pa_cons (pe_op op_sub pe_int (pv 4)) (pa_cons (pe_callB (call_min2 rfl) (by rfl) T.z_min (by decide +kernel) (pa_cons pe_int (pa_cons (pe_op op_sub pe_int (pv 4)) pa_nil))) pa_nil))))) (pe_cal C__law_take (hr.mono (by decide)) (pa_cons (pv 3) (pa_cons pe_int pa_nil))) (fun _ _ => rfl))))
      (pss_cons (ps_set (i := 7) sc_law.nd rfl (.inl rfl) (pe_cal C__law_least (hr.mono (by decide)) (pa_cons (pv 4) (pa_cons (pv 5) pa_nil))))
      (pss_cons (ps_if (PW.pt (pw_or (pt_cmpR (r := rNeD K) (op_neD hr.units) (pe_cal C_least_bounds (hr.mono (by decide)) (pa_cons (pv 4) (pa_cons (pv 5) pa_nil))) (pe_slice sl_tup (pv 7) po_none (po_some pe_int)) (nomark _)) (pw_or1 (pt_cmpR op_ne (pe_callB (call_reprD gd hr.units) (by rfl) T.z_repr (by decide +kernel) (pa_cons (pe_cal C_is_exact (hr.mono (by decide)) (pa_cons (pv 4) (pa_cons (pv 5) pa_nil))) pa_nil)) (pe_callB (call_reprD gd hr.units) (by rfl) T.z_repr (by decide +kernel) (pa_cons (pe_cmpR (r := rEqD K) (op_eqD hr.units) (pe_slice sl_tup (pv 7) po_none (po_some pe_int)) (pe_tup (pa_cons (pv 4) (pa_cons (pv 5) pa_nil))) (nomark _)) pa_nil)) (nomark _))))) (pss_one (ps_ret pe_bl)) pss_nil)
      (pss_cons (ps_if (pt_cmpR (r := rNeD K) (op_neD hr.units) (pe_cal C_in_bits (hr.mono (by decide)) (pa_cons (pv 4) (pa_cons (pv 5) pa_nil))) (pe_tup (pa_cons (pe_ix (r := rIxT K) ix_tup (pv 7) pe_int (fun _ _ => rfl)) (pa_cons (pe_op op_shr (pe_ix (r := rIxT K) ix_tup (pv 7) pe_int (fun _ _ => rfl)) (pe_ix (r := rIxT K) ix_tup (pv 7) pe_int (fun _ _ => rfl))) (pa_cons (pe_op op_shr (pe_op op_sub (pe_ix (r := rIxT K) ix_tup (pv 7) pe_int (fun _ _ => rfl)) (pe_ix (r := rIxT K) ix_tup (pv 7) pe_int (fun _ _ => rfl))) (pe_ix (r := rIxT K) ix_tup (pv 7) pe_int (fun _ _ => rfl))) pa_nil)))) (nomark _)) (pss_one (ps_ret pe_bl)) pss_nil)
      (pss_one (ps_if (pt_not (pt_val (pe_cal C__law_bits_so (hr.mono (by decide)) (pa_cons (pe_ix (r := rIxT K) ix_tup (pv 7) pe_int (fun _ _ => rfl)) (pa_cons (pe_ix (r := rIxT K) ix_tup (pv 7) pe_int (fun _ _ => rfl)) (pa_cons (pe_cal C_in_bits (hr.mono (by decide)) (pa_cons (pv 4) (pa_cons (pv 5) pa_nil))) pa_nil)))))) (pss_one (ps_ret pe_bl)) pss_nil))))))))))))))
      (pss_one (ps_ret pe_bl)))), ?_⟩
  refine ⟨128, rfl, by decide, by decide, fun d H1 kvs s1 hd0 hd hs hc => ?_⟩
  refine ⟨_, rfl, a, _, rfl, .inl (s1.seq hS), _, _, rfl, _, _, rfl, _, rfl, rep_lo (c := 10) (by decide) (by decide), rep_hi (c := 10) (by decide) (by decide), for_range (fun i σ H' => ∃ v2 v3 v4 v5 v6 v7, σ = [some (.ref a), some (.ref d), v2, v3, v4, v5, v6, v7] ∧ Same H1 H') ⟨_, _, _, _, _, _, rfl, Same.refl _⟩ ?_ ?_⟩
  · rintro i σ H3 hi ⟨v2, v3, v4, v5, v6, v7, rfl, s3⟩
    have hi63 := rep_i (c := 10) (by decide) (by decide) hi
    rw [i0]
    refine ⟨_, rfl, _, rfl, a, ns, i, rfl, (s1.trans s3).seq hS, hlen, hi63, fun x y p H4 sm4 hp0 P4 => ?_⟩
    have hd4 := sm4 _ _ (s3 _ _ hd)
    have ndp : d ≠ p := fun e => by subst e; rw [s3 _ _ hd] at hp0; cases hp0
    refine ⟨_, rfl, p, x, y, _, rfl, P4, by decide, by decide, fun lo x1 y1 lo0 lo1 P5 => ?_⟩
    refine ⟨_, rfl, _, _, rfl, rfl, _, rfl, _, rfl, _, _, rfl, rfl, p, x1, y1, _, rfl, P5, by omega, by omega, fun r2 x2 y2 r20 r21 P6 => ⟨_, _, rfl, rfl, ?_⟩⟩
    have hd6 : (upd (upd H4 p (.lst [.int x1, .int y1])) p (.lst [.int x2, .int y2])) d = some (.dT kvs) := by rw [upd_ne ndp, upd_ne ndp]; exact hd4
    have B6 : But p H4 (upd (upd H4 p (.lst [.int x1, .int y1])) p (.lst [.int x2, .int y2])) := (But.refl _ _).upd.upd
    generalize upd (upd H4 p (.lst [.int x1, .int y1])) p (.lst [.int x2, .int y2]) = H6 at P6 hd6 B6 ⊢
    refine ⟨_, rfl, _, rfl, _, rfl, lo, lo + 1 + r2, d, kvs, rfl, hd6, hs, hc, ⟨lo0, by omega, by omega⟩, by omega, fun H7 s7 => ⟨_, rfl, ?_⟩⟩
    refine ⟨8, rfl, by decide, by decide, for_range (n := 8) (fun j σ H' => ∃ v4 v5 v6 v7 x1 y1, σ = [some (.ref a), some (.ref d), some (.int (i : Int)), some (.ref p), v4, v5, v6, v7] ∧ But p H4 H' ∧ Pool H' p x1 y1) ⟨_, _, _, _, x2, y2, rfl, B6.trans (But.of s7), ⟨s7 _ _ P6.1, P6.2⟩⟩ ?_ ?_⟩
    · clear lo0 lo1 P5 r20 r21 P6 hd6 B6 s7
      rintro j σ H8 hj ⟨w4, w5, w6, w7, xa, ya, rfl, B8, P8⟩
      -- low
      refine ⟨_, rfl, p, xa, ya, _, rfl, P8, by decide, by decide, fun r1 xb yb r10 r11 Pb => ⟨sz (by simp), fun q1 hq1 => ?_⟩⟩
      refine ⟨_, rfl, p, xb, yb, _, rfl, Pb.new hq1, by decide, by decide, fun r2 xc yc r20 r21 Pc => ?_⟩
      have n1 : q1 ≠ p := (ne_of_none Pb.1 hq1).symm
      obtain ⟨lv, hv, lo, rfl, lo0, lo1⟩ := pick (xs := [.int 0, .int r1, .int 4095, .int 1]) (fun v => ∃ z, v = .int z ∧ 0 ≤ z ∧ z ≤ 4095) r20 r21 (by
        intro v hv
        simp at hv
        rcases hv with h | h | h | h <;> exact ⟨_, h, by omega, by omega⟩)
      refine ⟨q1, _, _, _, rfl, rfl, .of (by rw [upd_ne n1, upd_same]), hv, ?_⟩
      have Bc := But.upd (o := .lst [.int xc, .int yc]) (But.new (o := .lst [.int 0, .int r1, .int 4095, .int 1]) (But.upd (o := .lst [.int xb, .int yb]) B8) hq1)
      generalize upd (upd (upd H8 p (.lst [.int xb, .int yb])) q1 (.lst [.int 0, .int r1, .int 4095, .int 1])) p (.lst [.int xc, .int yc]) = H9 at Pc Bc ⊢
      clear hv n1 hq1 Pb P8 B8
      -- high
      refine ⟨_, rfl, _, _, rfl, rfl, _, rfl, _, rfl, _, _, rfl, rfl, p, xc, yc, _, rfl, Pc, by omega, by omega, fun r3 xd yd r30 r31 Pd => ⟨_, rfl, _, _, rfl, rfl, _, rfl, _, _, rfl, rfl, _, _, rfl, sz (by simp), fun q2 hq2 => ?_⟩⟩
      refine ⟨_, rfl, p, xd, yd, _, rfl, Pd.new hq2, by decide, by decide, fun r4 xe ye r40 r41 Pe => ?_⟩
      have n2 : q2 ≠ p := (ne_of_none Pd.1 hq2).symm
      obtain ⟨lv2, hv2, z, rfl, z0, z1⟩ := pick (xs := [.int 0, .int r3, .int (4095 - lo), .int (if 4095 - lo < 16 then 4095 - lo else 16)]) (fun v => ∃ z, v = .int z ∧ 0 ≤ z ∧ lo + z ≤ 4095) r40 r41 (by
        intro v hv
        simp at hv
        rcases hv with h | h | h | h
        · exact ⟨_, h, by omega, by omega⟩
        · exact ⟨_, h, by omega, by omega⟩
        · exact ⟨_, h, by omega, by omega⟩
        · exact ⟨_, h, by split <;> omega, by split <;> omega⟩)
      refine ⟨q2, _, _, _, rfl, rfl, .of (by rw [upd_ne n2, upd_same]), hv2, _, _, rfl, rfl, ?_⟩
      have Be := But.upd (o := .lst [.int xe, .int ye]) (But.new (o := .lst [.int 0, .int r3, .int (4095 - lo), .int (if 4095 - lo < 16 then 4095 - lo else 16)]) (But.upd (o := .lst [.int xd, .int yd]) Bc) hq2)
      generalize upd (upd (upd H9 p (.lst [.int xd, .int yd])) q2 _) p (.lst [.int xe, .int ye]) = H10 at Pe Be ⊢
      clear hv2 n2 hq2 Pc Pd Bc
      have bd : Bd lo (lo + 1 + z) := ⟨lo0, by omega, by omega⟩
      -- due
      refine ⟨_, rfl, _, rfl, lo, lo + 1 + z, rfl, bd, fun s pd hst hpd => ?_⟩
      have lf := least_facts bd hst
      -- least_bounds(low, high) != due[:2]
      refine ⟨_, rfl, _, rfl, lo, lo + 1 + z, rfl, bd, fun s2 p2 H11 hs2 s11 hp2 hp22 => ?_⟩
      have e2 : s = s2 := hst.uniq hs2
      subst e2
      have fd : H11 pd = some (.tup [.int (lo / 2 ^ s * 2 ^ s), .int ((((lo + 1 + z) - 1) / 2 ^ s + 1) * 2 ^ s), .int (s : Int)]) := s11 _ _ upd_same
      refine ⟨_, rfl, 2, rfl, pd, _, rfl, .of fd, (by show ¬ (HT.sIx 3 0 none = 0 ∧ HT.sIx 3 3 (some 2) = 3); decide), fun p3 hp3 => ?_⟩
      have n23 : p2 ≠ p3 := ne_of_none hp22 hp3
      refine ⟨_, _, dp2 (show (upd H11 p3 _) p2 = _ by rw [upd_ne n23]; exact hp22), dp2 (show (upd H11 p3 _) p3 = some (.tup [.int (lo / 2 ^ s * 2 ^ s), .int ((((lo + 1 + z) - 1) / 2 ^ s + 1) * 2 ^ s)]) from upd_same), rfl, rfl, _, rfl, ifnb (fun c => (t2_no c rfl rfl).elim) (fun _ => ?_)⟩
      -- repr
      have S12 : Same H10 (upd H11 p3 (.tup [.int (lo / 2 ^ s * 2 ^ s), .int ((((lo + 1 + z) - 1) / 2 ^ s + 1) * 2 ^ s)])) := sameN ((sameN (Same.refl _) hpd).trans s11) hp3
      have fd12 : (upd H11 p3 (.tup [.int (lo / 2 ^ s * 2 ^ s), .int ((((lo + 1 + z) - 1) / 2 ^ s + 1) * 2 ^ s)])) pd = some (.tup [.int (lo / 2 ^ s * 2 ^ s), .int ((((lo + 1 + z) - 1) / 2 ^ s + 1) * 2 ^ s), .int (s : Int)]) := by rw [upd_ne (ne_of_none fd hp3)]; exact fd
      refine ⟨_, rfl, _, rfl, lo, lo + 1 + z, rfl, bd, fun b H13 s13 hb => ⟨.bl b, .bool b, rfl, .bl b, rfl, rfl, bl_depth b, bl_shown b, ?_⟩⟩
      have fd13 := s13 _ _ fd12
      refine ⟨_, rfl, 2, rfl, pd, _, rfl, .of fd13, (by show ¬ (HT.sIx 3 0 none = 0 ∧ HT.sIx 3 3 (some 2) = 3); decide), fun p4 hp4 => ?_⟩
      refine ⟨_, rfl, _, rfl, sz (by simp), fun p5 hp5 => ?_⟩
      have n45 : p4 ≠ p5 := ne_of_none upd_same hp5
      refine ⟨_, _, dp2 (show (upd (upd H13 p4 _) p5 _) p4 = some (.tup [.int (lo / 2 ^ s * 2 ^ s), .int ((((lo + 1 + z) - 1) / 2 ^ s + 1) * 2 ^ s)]) by rw [upd_ne n45]; exact upd_same), dp2 (show (upd (upd H13 p4 _) p5 _) p5 = some (.tup [.int lo, .int (lo + 1 + z)]) from upd_same), rfl, rfl, ?_⟩
      refine ⟨_, _, rfl, .bl _, rfl, rfl, bl_depth _, bl_shown _, rfl, _, rfl, ?_⟩
      have eqb : b = PyData.eqv (.tuple [.int (lo / 2 ^ s * 2 ^ s), .int ((((lo + 1 + z) - 1) / 2 ^ s + 1) * 2 ^ s)]) (.tuple [.int lo, .int (lo + 1 + z)]) := by
        rw [Bool.eq_iff_iff, hb, t2_eqv]
        constructor
        · rintro ⟨t, e1, e2, e3⟩
          have e4 : s = t := hst.uniq e1
          subst e4
          exact ⟨e2, e3⟩
        · rintro ⟨e2, e3⟩
          exact ⟨s, hst, e2, e3⟩
      refine ifnd (fun c => absurd (by rw [eqb]) c) (fun _ => ?_)
      have S14 : Same H10 (upd (upd H13 p4 (.tup [.int (lo / 2 ^ s * 2 ^ s), .int ((((lo + 1 + z) - 1) / 2 ^ s + 1) * 2 ^ s)])) p5 (.tup [.int lo, .int (lo + 1 + z)])) := sameN (sameN (S12.trans s13) hp4) hp5
      have fd14 : (upd (upd H13 p4 (.tup [.int (lo / 2 ^ s * 2 ^ s), .int ((((lo + 1 + z) - 1) / 2 ^ s + 1) * 2 ^ s)])) p5 (.tup [.int lo, .int (lo + 1 + z)])) pd = some (.tup [.int (lo / 2 ^ s * 2 ^ s), .int ((((lo + 1 + z) - 1) / 2 ^ s + 1) * 2 ^ s), .int (s : Int)]) := sameN (sameN (Same.refl _) hp4) hp5 _ _ fd13
      -- in_bits
      refine ⟨_, rfl, _, rfl, lo, lo + 1 + z, rfl, bd, fun s6 p6 hs6 hp6 => ?_⟩
      have e6 : s = s6 := hst.uniq hs6
      subst e6
      have fd15 := sameN (o := .tup [.int (s : Int), .int (lo / 2 ^ s), .int (Dd lo (lo + 1 + z) s + 1)]) (Same.refl _) hp6 _ _ fd14
      refine ⟨_, rfl, pd, _, 2, _, rfl, rfl, .of fd15, atI_nat (j := 2) rfl, _, rfl, pd, _, 0, _, rfl, rfl, .of fd15, atI_nat (j := 0) rfl, _, rfl, pd, _, 2, _, rfl, rfl, .of fd15, atI_nat (j := 2) rfl, _, _, rfl, rfl, by omega, ?_⟩
      refine ⟨_, rfl, pd, _, 1, _, rfl, rfl, .of fd15, atI_nat (j := 1) rfl, _, rfl, pd, _, 0, _, rfl, rfl, .of fd15, atI_nat (j := 0) rfl, _, _, rfl, rfl, _, rfl, pd, _, 2, _, rfl, rfl, .of fd15, atI_nat (j := 2) rfl, _, _, rfl, rfl, by omega, sz (by simp), fun p7 hp7 => ?_⟩
      have n67 : p6 ≠ p7 := ne_of_none upd_same hp7
      have p2s := pow_pos2 s
      have ed1 : lo / 2 ^ s * 2 ^ s / 2 ^ s = lo / 2 ^ s := Int.mul_ediv_cancel _ (Int.ne_of_gt p2s)
      have ed2 : ((((lo + 1 + z) - 1) / 2 ^ s + 1) * 2 ^ s - lo / 2 ^ s * 2 ^ s) / 2 ^ s = Dd lo (lo + 1 + z) s + 1 := by
        rw [← Int.sub_mul, Int.mul_ediv_cancel _ (Int.ne_of_gt p2s)]
        have := first_over lo (lo + 1 + z) s
        omega
      refine ⟨_, _, dp3 (show (upd (upd _ p6 _) p7 _) p6 = _ by rw [upd_ne n67, upd_same]), dp3 (show (upd (upd _ p6 _) p7 _) p7 = some (.tup [.int (s : Int), .int (lo / 2 ^ s * 2 ^ s / 2 ^ s), .int (((((lo + 1 + z) - 1) / 2 ^ s + 1) * 2 ^ s - lo / 2 ^ s * 2 ^ s) / 2 ^ s)]) from upd_same), rfl, rfl, _, rfl, ifnb (fun c => absurd (t3_eqv.mpr ⟨rfl, ed1.symm, ed2.symm⟩) (by rw [c]; exact Bool.false_ne_true)) (fun _ => ?_)⟩
      have S16 := sameN (o := .tup [.int (s : Int), .int (lo / 2 ^ s * 2 ^ s / 2 ^ s), .int (((((lo + 1 + z) - 1) / 2 ^ s + 1) * 2 ^ s - lo / 2 ^ s * 2 ^ s) / 2 ^ s)]) (sameN (o := .tup [.int (s : Int), .int (lo / 2 ^ s), .int (Dd lo (lo + 1 + z) s + 1)]) (Same.refl _) hp6) hp7
      have fd16 := S16 _ _ fd14
      -- the bits tell them
      refine ⟨_, rfl, pd, _, 0, _, rfl, rfl, .of fd16, atI_nat (j := 0) rfl, _, rfl, pd, _, 1, _, rfl, rfl, .of fd16, atI_nat (j := 1) rfl, _, rfl, _, rfl, lo, lo + 1 + z, rfl, bd, fun s8 p8 hs8 hp8 => ?_⟩
      have e8 : s = s8 := hst.uniq hs8
      subst e8
      refine ⟨_, _, p8, s, lo / 2 ^ s, Dd lo (lo + 1 + z) s + 1, rfl, upd_same, by omega, by have := hst.1; omega, lf.2.2.2.2.1, lf.2.2.2.2.2.1, by have := lf.2.2.2.2.2.2; omega, lf.2.2.1, lf.2.2.2.1, rfl, ?_, fun H17 s17 => ⟨_, rfl, ?_⟩⟩
      · show (lo / 2 ^ s + (Dd lo (lo + 1 + z) s + 1)) * 2 ^ s = _
        rw [first_over]
      · have S17 := S14.trans (S16.trans ((sameN (Same.refl _) hp8).trans s17))
        exact ⟨_, _, _, _, xe, ye, rfl, Be.trans (But.of S17), ⟨S17 _ _ Pe.1, Pe.2⟩⟩
    · rintro σ H8 ⟨w4, w5, w6, w7, xa, ya, rfl, B8, P8⟩
      exact ⟨_, _, _, _, _, _, rfl, sameP s3 sm4 hp0 B8⟩
  · rintro σ H3 ⟨v2, v3, v4, v5, v6, v7, rfl, s3⟩
    exact q _
end
theorem all_mk {l : PySem.W.OpenLaw} {w : World} {K : PySem.W.Frag} {h : Heap} {mg : Str → Option Value} {fa f0 f1 f2 f3 f4 f5 f6 f7 f8 f9 f10 f11 f12 f13 : Addr} (X : K.In h) (G : h.Ns mainGlobals mg) (hfa : mg "law" = some (.ref fa))
    {od0 an0 od1 an1 od2 an2 od3 an3 od4 an4 od5 an5 od6 an6 od7 an7 od8 an8 od9 an9 od10 an10 od11 an11 od12 an12 od13 an13 : Option Addr} {sl0 sl1 sl2 sl3 sl4 sl5 sl6 sl7 sl8 sl9 sl10 sl11 sl12 sl13 : Array (Option Value)} {oc0 kV0 dc0 pm0 cd0 ct0 oc1 kV1 dc1 pm1 cd1 ct1 oc2 kV2 dc2 pm2 cd2 ct2 oc3 kV3 dc3 pm3 cd3 ct3 oc4 kV4 dc4 pm4 cd4 ct4 oc5 kV5 dc5 pm5 cd5 ct5 oc6 kV6 dc6 pm6 cd6 ct6 oc7 kV7 dc7 pm7 cd7 ct7 oc8 kV8 dc8 pm8 cd8 ct8 oc9 kV9 dc9 pm9 cd9 ct9 oc10 kV10 dc10 pm10 cd10 ct10 oc11 kV11 dc11 pm11 cd11 ct11 oc12 kV12 dc12 pm12 cd12 ct12 oc13 kV13 dc13 pm13 cd13 ct13 : Value}
    (a0 : PySem.W.nsIn K mainGlobals "is_whole" = some (some (.ref f0))) (l0 : K.lookup f0 = some ⟨oc0, od0, .func (PySem.W.fnOf "is_whole" "is_whole" (defArgs s_is_whole) (defBody s_is_whole) (defScope s_is_whole) .none kV0 dc0 pm0 an0 cd0 ct0), sl0⟩) (c0 : PySem.W.codeIn K cd0 "is_whole" = true) (k0 : PySem.W.keepIn K (.ref f0) = true)
    (a1 : PySem.W.nsIn K mainGlobals "are_bounds" = some (some (.ref f1))) (l1 : K.lookup f1 = some ⟨oc1, od1, .func (PySem.W.fnOf "are_bounds" "are_bounds" (defArgs s_are_bounds) (defBody s_are_bounds) (defScope s_are_bounds) .none kV1 dc1 pm1 an1 cd1 ct1), sl1⟩) (c1 : PySem.W.codeIn K cd1 "are_bounds" = true) (k1 : PySem.W.keepIn K (.ref f1) = true)
    (a2 : PySem.W.nsIn K mainGlobals "look_at_bounds" = some (some (.ref f2))) (l2 : K.lookup f2 = some ⟨oc2, od2, .func (PySem.W.fnOf "look_at_bounds" "look_at_bounds" (defArgs s_look_at_bounds) (defBody s_look_at_bounds) (defScope s_look_at_bounds) .none kV2 dc2 pm2 an2 cd2 ct2), sl2⟩) (c2 : PySem.W.codeIn K cd2 "look_at_bounds" = true) (k2 : PySem.W.keepIn K (.ref f2) = true)
    (a3 : PySem.W.nsIn K mainGlobals "_steps_over" = some (some (.ref f3))) (l3 : K.lookup f3 = some ⟨oc3, od3, .func (PySem.W.fnOf "_steps_over" "_steps_over" (defArgs s__steps_over) (defBody s__steps_over) (defScope s__steps_over) .none kV3 dc3 pm3 an3 cd3 ct3), sl3⟩) (c3 : PySem.W.codeIn K cd3 "_steps_over" = true) (k3 : PySem.W.keepIn K (.ref f3) = true)
    (a4 : PySem.W.nsIn K mainGlobals "in_bits" = some (some (.ref f4))) (l4 : K.lookup f4 = some ⟨oc4, od4, .func (PySem.W.fnOf "in_bits" "in_bits" (defArgs s_in_bits) (defBody s_in_bits) (defScope s_in_bits) .none kV4 dc4 pm4 an4 cd4 ct4), sl4⟩) (c4 : PySem.W.codeIn K cd4 "in_bits" = true) (k4 : PySem.W.keepIn K (.ref f4) = true)
    (a5 : PySem.W.nsIn K mainGlobals "least_bounds" = some (some (.ref f5))) (l5 : K.lookup f5 = some ⟨oc5, od5, .func (PySem.W.fnOf "least_bounds" "least_bounds" (defArgs s_least_bounds) (defBody s_least_bounds) (defScope s_least_bounds) .none kV5 dc5 pm5 an5 cd5 ct5), sl5⟩) (c5 : PySem.W.codeIn K cd5 "least_bounds" = true) (k5 : PySem.W.keepIn K (.ref f5) = true)
    (a6 : PySem.W.nsIn K mainGlobals "is_exact" = some (some (.ref f6))) (l6 : K.lookup f6 = some ⟨oc6, od6, .func (PySem.W.fnOf "is_exact" "is_exact" (defArgs s_is_exact) (defBody s_is_exact) (defScope s_is_exact) .none kV6 dc6 pm6 an6 cd6 ct6), sl6⟩) (c6 : PySem.W.codeIn K cd6 "is_exact" = true) (k6 : PySem.W.keepIn K (.ref f6) = true)
    (a7 : PySem.W.nsIn K mainGlobals "_law_take" = some (some (.ref f7))) (l7 : K.lookup f7 = some ⟨oc7, od7, .func (PySem.W.fnOf "_law_take" "_law_take" (defArgs s__law_take) (defBody s__law_take) (defScope s__law_take) .none kV7 dc7 pm7 an7 cd7 ct7), sl7⟩) (c7 : PySem.W.codeIn K cd7 "_law_take" = true) (k7 : PySem.W.keepIn K (.ref f7) = true)
    (a8 : PySem.W.nsIn K mainGlobals "_law_pool" = some (some (.ref f8))) (l8 : K.lookup f8 = some ⟨oc8, od8, .func (PySem.W.fnOf "_law_pool" "_law_pool" (defArgs s__law_pool) (defBody s__law_pool) (defScope s__law_pool) .none kV8 dc8 pm8 an8 cd8 ct8), sl8⟩) (c8 : PySem.W.codeIn K cd8 "_law_pool" = true) (k8 : PySem.W.keepIn K (.ref f8) = true)
    (a9 : PySem.W.nsIn K mainGlobals "_law_least" = some (some (.ref f9))) (l9 : K.lookup f9 = some ⟨oc9, od9, .func (PySem.W.fnOf "_law_least" "_law_least" (defArgs s__law_least) (defBody s__law_least) (defScope s__law_least) .none kV9 dc9 pm9 an9 cd9 ct9), sl9⟩) (c9 : PySem.W.codeIn K cd9 "_law_least" = true) (k9 : PySem.W.keepIn K (.ref f9) = true)
    (a10 : PySem.W.nsIn K mainGlobals "_law_all_told" = some (some (.ref f10))) (l10 : K.lookup f10 = some ⟨oc10, od10, .func (PySem.W.fnOf "_law_all_told" "_law_all_told" (defArgs s__law_all_told) (defBody s__law_all_told) (defScope s__law_all_told) .none kV10 dc10 pm10 an10 cd10 ct10), sl10⟩) (c10 : PySem.W.codeIn K cd10 "_law_all_told" = true) (k10 : PySem.W.keepIn K (.ref f10) = true)
    (a11 : PySem.W.nsIn K mainGlobals "_law_bits_so" = some (some (.ref f11))) (l11 : K.lookup f11 = some ⟨oc11, od11, .func (PySem.W.fnOf "_law_bits_so" "_law_bits_so" (defArgs s__law_bits_so) (defBody s__law_bits_so) (defScope s__law_bits_so) .none kV11 dc11 pm11 an11 cd11 ct11), sl11⟩) (c11 : PySem.W.codeIn K cd11 "_law_bits_so" = true) (k11 : PySem.W.keepIn K (.ref f11) = true)
    (a12 : PySem.W.nsIn K mainGlobals "_law_small_so" = some (some (.ref f12))) (l12 : K.lookup f12 = some ⟨oc12, od12, .func (PySem.W.fnOf "_law_small_so" "_law_small_so" (defArgs s__law_small_so) (defBody s__law_small_so) (defScope s__law_small_so) .none kV12 dc12 pm12 an12 cd12 ct12), sl12⟩) (c12 : PySem.W.codeIn K cd12 "_law_small_so" = true) (k12 : PySem.W.keepIn K (.ref f12) = true)
    (a13 : PySem.W.nsIn K mainGlobals "law" = some (some (.ref f13))) (l13 : K.lookup f13 = some ⟨oc13, od13, .func (PySem.W.fnOf "law" "law" (defArgs s_law) (defBody s_law) (defScope s_law) .none kV13 dc13 pm13 an13 cd13 ct13), sl13⟩) (c13 : PySem.W.codeIn K cd13 "law" = true) (k13 : PySem.W.keepIn K (.ref f13) = true)
    (z_abs : PySem.W.nsIn K mainGlobals "abs" = some none)
    (z_bool : PySem.W.nsIn K mainGlobals "bool" = some none)
    (z_int : PySem.W.nsIn K mainGlobals "int" = some none)
    (z_isinstance : PySem.W.nsIn K mainGlobals "isinstance" = some none)
    (z_len : PySem.W.nsIn K mainGlobals "len" = some none)
    (z_max : PySem.W.nsIn K mainGlobals "max" = some none)
    (z_min : PySem.W.nsIn K mainGlobals "min" = some none)
    (z_range : PySem.W.nsIn K mainGlobals "range" = some none)
    (z_repr : PySem.W.nsIn K mainGlobals "repr" = some none)
    (z_sum : PySem.W.nsIn K mainGlobals "sum" = some none)
    (z_tuple : PySem.W.nsIn K mainGlobals "tuple" = some none)
    {t_CELLS : Tok} (v_CELLS : PySem.W.nsIn K mainGlobals "CELLS" = some (some (.int 4096 t_CELLS)))
    {t_TOP_COUNT : Tok} (v_TOP_COUNT : PySem.W.nsIn K mainGlobals "TOP_COUNT" = some (some (.int 16 t_TOP_COUNT)))
    : ∀ (base : Heap) (H : Hp) (s : Shared) (a : Addr) (ns : List Int), K.In base → base.Ns mainGlobals mg → Env0 l.prog w K mg base callerA [] s H → SqL K H a (ns.map V.int) → ns.length ≤ 63 → codeAny (model l.prog w) callerA (.call (.ref fa) ⟨[.ref a], []⟩) (CR CX0 [] l.prog w H s (fun v _ => v = .bl true) fun _ _ _ => False) s := by
  have e := hfa.symm.trans (PySem.W.mg_of X G a13)
  cases e
  have F0 := fun_mk (st := s_is_whole) l0 c0 k0
  have F1 := fun_mk (st := s_are_bounds) l1 c1 k1
  have F2 := fun_mk (st := s_look_at_bounds) l2 c2 k2
  have F3 := fun_mk (st := s__steps_over) l3 c3 k3
  have F4 := fun_mk (st := s_in_bits) l4 c4 k4
  have F5 := fun_mk (st := s_least_bounds) l5 c5 k5
  have F6 := fun_mk (st := s_is_exact) l6 c6 k6
  have F7 := fun_mk (st := s__law_take) l7 c7 k7
  have F8 := fun_mk (st := s__law_pool) l8 c8 k8
  have F9 := fun_mk (st := s__law_least) l9 c9 k9
  have F10 := fun_mk (st := s__law_all_told) l10 c10 k10
  have F11 := fun_mk (st := s__law_bits_so) l11 c11 k11
  have F12 := fun_mk (st := s__law_small_so) l12 c12 k12
  have F13 := fun_mk (st := s_law) l13 c13 k13
  have T : Txt K mg := ⟨PySem.W.mg_none_of X G z_abs, PySem.W.mg_none_of X G z_bool, PySem.W.mg_none_of X G z_int, PySem.W.mg_none_of X G z_isinstance, PySem.W.mg_none_of X G z_len, PySem.W.mg_none_of X G z_max, PySem.W.mg_none_of X G z_min, PySem.W.mg_none_of X G z_range, PySem.W.mg_none_of X G z_repr, PySem.W.mg_none_of X G z_sum, PySem.W.mg_none_of X G z_tuple, ⟨_, PySem.W.mg_of X G v_CELLS⟩, ⟨_, PySem.W.mg_of X G v_TOP_COUNT⟩⟩
  intro base H s a ns kb nb e0 hS hlen
  have C_is_whole : Cal l.prog w K mg base "is_whole" 1 ["thing", "least", "most"] (sp_is_whole K) := ⟨_, _, ok_is_whole F0 T, PySem.W.mg_of X G a0, F0.kp, F0.binds fun _ _ _ _ _ _ us hl => match us, hl with | [_, _, _], _ => rfl⟩
  have C_are_bounds : Cal l.prog w K mg base "are_bounds" 2 ["low", "high"] (sp_are_bounds K) := ⟨_, _, ok_are_bounds F1 T C_is_whole, PySem.W.mg_of X G a1, F1.kp, F1.binds fun _ _ _ _ _ _ us hl => match us, hl with | [_, _], _ => rfl⟩
  have C_look_at_bounds : Cal l.prog w K mg base "look_at_bounds" 3 ["low", "high"] (sp_look_at_bounds K) := ⟨_, _, ok_look_at_bounds F2 T C_are_bounds, PySem.W.mg_of X G a2, F2.kp, F2.binds fun _ _ _ _ _ _ us hl => match us, hl with | [_, _], _ => rfl⟩
  have C__steps_over : Cal l.prog w K mg base "_steps_over" 1 ["low", "high", "step"] (sp__steps_over K) := ⟨_, _, ok__steps_over F3 T, PySem.W.mg_of X G a3, F3.kp, F3.binds fun _ _ _ _ _ _ us hl => match us, hl with | [_, _, _], _ => rfl⟩
  have C_in_bits : Cal l.prog w K mg base "in_bits" 4 ["low", "high"] (sp_in_bits K) := ⟨_, _, ok_in_bits F4 T C_look_at_bounds C__steps_over, PySem.W.mg_of X G a4, F4.kp, F4.binds fun _ _ _ _ _ _ us hl => match us, hl with | [_, _], _ => rfl⟩
  have C_least_bounds : Cal l.prog w K mg base "least_bounds" 5 ["low", "high"] (sp_least_bounds K) := ⟨_, _, ok_least_bounds F5 T C_in_bits, PySem.W.mg_of X G a5, F5.kp, F5.binds fun _ _ _ _ _ _ us hl => match us, hl with | [_, _], _ => rfl⟩
  have C_is_exact : Cal l.prog w K mg base "is_exact" 6 ["low", "high"] (sp_is_exact K) := ⟨_, _, ok_is_exact F6 T C_least_bounds, PySem.W.mg_of X G a6, F6.kp, F6.binds fun _ _ _ _ _ _ us hl => match us, hl with | [_, _], _ => rfl⟩
  have C__law_take : Cal l.prog w K mg base "_law_take" 1 ["_law_pool_here", "_law_many"] (sp__law_take K) := ⟨_, _, ok__law_take F7 T, PySem.W.mg_of X G a7, F7.kp, F7.binds fun _ _ _ _ _ _ us hl => match us, hl with | [_, _], _ => rfl⟩
  have C__law_pool : Cal l.prog w K mg base "_law_pool" 1 ["_law_script", "_law_k"] (sp__law_pool K) := ⟨_, _, ok__law_pool F8 T, PySem.W.mg_of X G a8, F8.kp, F8.binds fun _ _ _ _ _ _ us hl => match us, hl with | [_, _], _ => rfl⟩
  have C__law_least : Cal l.prog w K mg base "_law_least" 1 ["_law_low", "_law_high"] (sp__law_least K) := ⟨_, _, ok__law_least F9 T, PySem.W.mg_of X G a9, F9.kp, F9.binds fun _ _ _ _ _ _ us hl => match us, hl with | [_, _], _ => rfl⟩
  have C__law_all_told : Cal l.prog w K mg base "_law_all_told" 1 ["_law_most"] (sp__law_all_told K) := ⟨_, _, ok__law_all_told F10 T, PySem.W.mg_of X G a10, F10.kp, F10.binds fun _ _ _ _ _ _ us hl => match us, hl with | [_], _ => rfl⟩
  have C__law_bits_so : Cal l.prog w K mg base "_law_bits_so" 1 ["_law_low", "_law_high", "_law_some"] (sp__law_bits_so K) := ⟨_, _, ok__law_bits_so F11 T, PySem.W.mg_of X G a11, F11.kp, F11.binds fun _ _ _ _ _ _ us hl => match us, hl with | [_, _, _], _ => rfl⟩
  have C__law_small_so : Cal l.prog w K mg base "_law_small_so" 7 ["_law_low", "_law_high", "_law_every"] (sp__law_small_so K) := ⟨_, _, ok__law_small_so F12 T C_in_bits C_least_bounds C_is_exact C__law_bits_so, PySem.W.mg_of X G a12, F12.kp, F12.binds fun _ _ _ _ _ _ us hl => match us, hl with | [_, _, _], _ => rfl⟩
  exact ok_law l13 c13 T C_in_bits C_least_bounds C_is_exact C__law_take C__law_pool C__law_least C__law_all_told C__law_bits_so C__law_small_so e0 hS hlen
end My
open PySem PySem.W PyProof.Rows
set_option maxRecDepth 100000 in
set_option maxHeartbeats 0 in
theorem PySem.Challenge.cw_sealedreach_k06_least_bounds_told_holds : PySem.Challenge.rw_sealedreach_k06_least_bounds_told.Holds := by
  w_on; o_law; k_head; (case hw => w_witness2)
  k_fill
  refine My.walk_scr (l := PySem.Challenge.rw_sealedreach_k06_least_bounds_told) (n := 63) rfl (by decide) rfl (fun w h Y => PySem.W.kIn_of Y) ?F
  case F =>
    intro w mg fa h KX G hmg
    refine' My.all_mk KX G hmg ?a0 ?l0 ?c0 ?k0 ?a1 ?l1 ?c1 ?k1 ?a2 ?l2 ?c2 ?k2 ?a3 ?l3 ?c3 ?k3 ?a4 ?l4 ?c4 ?k4 ?a5 ?l5 ?c5 ?k5 ?a6 ?l6 ?c6 ?k6 ?a7 ?l7 ?c7 ?k7 ?a8 ?l8 ?c8 ?k8 ?a9 ?l9 ?c9 ?k9 ?a10 ?l10 ?c10 ?k10 ?a11 ?l11 ?c11 ?k11 ?a12 ?l12 ?c12 ?k12 ?a13 ?l13 ?c13 ?k13 ?z_abs ?z_bool ?z_int ?z_isinstance ?z_len ?z_max ?z_min ?z_range ?z_repr ?z_sum ?z_tuple ?v_CELLS ?v_TOP_COUNT
    (case a0 => k_is)
    (case l0 => k_is)
    (case c0 => k_is)
    (case k0 => k_is)
    (case a1 => k_is)
    (case l1 => k_is)
    (case c1 => k_is)
    (case k1 => k_is)
    (case a2 => k_is)
    (case l2 => k_is)
    (case c2 => k_is)
    (case k2 => k_is)
    (case a3 => k_is)
    (case l3 => k_is)
    (case c3 => k_is)
    (case k3 => k_is)
    (case a4 => k_is)
    (case l4 => k_is)
    (case c4 => k_is)
    (case k4 => k_is)
    (case a5 => k_is)
    (case l5 => k_is)
    (case c5 => k_is)
    (case k5 => k_is)
    (case a6 => k_is)
    (case l6 => k_is)
    (case c6 => k_is)
    (case k6 => k_is)
    (case a7 => k_is)
    (case l7 => k_is)
    (case c7 => k_is)
    (case k7 => k_is)
    (case a8 => k_is)
    (case l8 => k_is)
    (case c8 => k_is)
    (case k8 => k_is)
    (case a9 => k_is)
    (case l9 => k_is)
    (case c9 => k_is)
    (case k9 => k_is)
    (case a10 => k_is)
    (case l10 => k_is)
    (case c10 => k_is)
    (case k10 => k_is)
    (case a11 => k_is)
    (case l11 => k_is)
    (case c11 => k_is)
    (case k11 => k_is)
    (case a12 => k_is)
    (case l12 => k_is)
    (case c12 => k_is)
    (case k12 => k_is)
    (case a13 => k_is)
    (case l13 => k_is)
    (case c13 => k_is)
    (case k13 => k_is)
    (case z_abs => k_is)
    (case z_bool => k_is)
    (case z_int => k_is)
    (case z_isinstance => k_is)
    (case z_len => k_is)
    (case z_max => k_is)
    (case z_min => k_is)
    (case z_range => k_is)
    (case z_repr => k_is)
    (case z_sum => k_is)
    (case z_tuple => k_is)
    (case v_CELLS => k_is)
    (case v_TOP_COUNT => k_is)
