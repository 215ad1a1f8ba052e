import PyProof.Rows.All
import Wide.All
import OpenK.AllK
import Wide.FinOn
import PySem.Challenge.RW_fewrules_k40_colour_trees_told
import HandS.ForMost
import HandS.GenList
import HandS.AnyAll
import HandS.Rev
import HandS.Codes
import HandS.Conv
import HandS.StrMore
import HandS.IsInst
import HandS.Iter
import HandS.EndOwn
import HandS.DictComp
import HandS.ForExc
import HandS.ExcIs
import KE.KExcIs
import HandS.TryMany
import HandS.Star
import HandS.TupSets
import KE.KeyNested
import KE.KDictKeyed
import HandS.SetFor
import PyProof.StrBlock2
import HandS.Deep
import HandS.TupAny
import HandS.SortRule
import KE.DataMinMax
import HandS.SortKw
import HandS.Lambda
import HandS.TupLen
import HandS.SetKeys
import HandS.Dict
import HandS.More
import KE.SortData
set_option Elab.async false
set_option linter.all false
set_option maxRecDepth 100000
set_option maxHeartbeats 2000000
namespace Gx
open PySem PySem.Spec PyProof.Rows L2 GenW

/-- a generator expression's scope: its own names, and the captured ones with their places in the def's names -/
structure GxS (sc : Scope) (N : List Str) (scope : Scope) (own caps : List Str) (cix : List Nat) : Prop where
  kind : scope.kind = .function
  co : scope.isCoroutine = false
  cell : ∀ y ∈ scope.names, y.2 ≠ .cell
  dot : scope.names.lookup (".0" : Str) = some NameKind.local
  nd : (own ++ caps).Nodup
  len : caps.length = cix.length
  at_ : ∀ (j : Nat) (x : Str), caps[j]? = some x → ∃ i, cix[j]? = some i ∧ N[i]? = some x
  capF : ∀ x ∈ caps, scope.names.lookup x = some .free
  free : ∀ y ∈ scope.names, y.2 = .free → sc.names.lookup y.1 = some .cell ∨ sc.names.lookup y.1 = some .free

def gxC (sc : Scope) (N : List Str) (scope : Scope) (own caps : List Str) (cix : List Nat) : Bool :=
  (match scope.kind with | .function => true | _ => false) && (scope.isCoroutine == false) && scope.names.all (fun y => match y.2 with | .cell => false | .free => (match sc.names.lookup y.1 with | some .cell => true | some .free => true | _ => false) | _ => true) &&
  (match scope.names.lookup (".0" : Str) with | some .local => true | _ => false) && decide (own ++ caps).Nodup && decide (caps.length = cix.length) && decide ((cix.map fun i => N[i]?) = caps.map some) &&
  caps.all (fun x => match scope.names.lookup x with | some .free => true | _ => false)
theorem gxs_by {sc : Scope} {N : List Str} {scope : Scope} {own caps : List Str} {cix : List Nat} (h : gxC sc N scope own caps cix = true) : GxS sc N scope own caps cix := by
  unfold gxC at h
  simp only [Bool.and_eq_true, List.all_eq_true, decide_eq_true_eq, beq_iff_eq] at h
  obtain ⟨⟨⟨⟨⟨⟨⟨h1, h2⟩, h3⟩, h4⟩, h5⟩, h6⟩, h7⟩, h8⟩ := h
  refine ⟨?_, h2, fun y hy e => ?_, ?_, h5, h6, fun j x e => ?_, fun x hx => ?_, fun y hy e => ?_⟩
  · split at h1
    · assumption
    · cases h1
  · have q := h3 y hy
    rw [e] at q
    cases q
  · split at h4
    · assumption
    · cases h4
  · have e2 : (cix.map fun i => N[i]?)[j]? = some (some x) := by rw [h7, List.getElem?_map, e]; rfl
    rw [List.getElem?_map] at e2
    cases q : cix[j]? with
    | none => rw [q] at e2; cases e2
    | some i => rw [q] at e2; exact ⟨i, rfl, Option.some.inj e2⟩
  · have q := h8 x hx
    split at q
    · assumption
    · cases q
  · have q := h3 y hy
    rw [e] at q
    simp only at q
    split at q
    · exact .inl (by assumption)
    · exact .inr (by assumption)
    · cases q
/-- the slots within: the own names without values, the captured ones -/
def gσ (own : List Str) (cix : List Nat) (σ : L2.St) : L2.St := List.replicate own.length none ++ cix.map fun i => (σ[i]?).getD none
/-- what the turn has not forgotten -/
def Wk (σ' σ2 : L2.St) : Prop := σ'.length = σ2.length ∧ ∀ (i : Nat) v, σ'[i]? = some (some v) → σ2[i]? = some (some v)

/-- the context within: s, H: the state ahead of the frame's making -/
abbrev gxCx (X : Cx) (A : Around) (N : List Str) (s : Shared) (H : Hp) (genv : Env) (fp : List Addr) (pn : List (Addr × Obj)) : Cx :=
  { X with A := A, N := N, s_0 := s, H_0 := H, env := genv, outer := X.stack, stack := genv :: X.stack, ex := fp, fn := fun _ => false, calm := true, pn := pn, xe := fun _ _ => False }

section
variable {X : Cx} {pins : List (Addr × Obj)} {σ : L2.St} {H : Hp} {s : Shared}
theorem gx_start {scope : Scope} {own caps : List Str} {cix : List Nat} {fp : List Addr} {A : Around} {code : Value} {a : Addr} {go : Obj} {s5 : Shared} (I : Inv X pins σ H s) (S : GxS X.env.scope X.N scope own caps cix)
    (hfp : ∀ b ∈ fp, FpOk X pins H b ∧ b < s.heap.objs.size) (hA : A.handled = none) (hfr : A.frames = some (genEnv scope (cloFrom X.env.cells scope.names []) s.heap.objs.size code builtinsNs X.env :: X.stack))
    (k5 : ∀ b o, s.heap.get? b = some o → s5.heap.get? b = some o) (hn : ∃ m, s5.heap.Ns s.heap.objs.size m) (os5 : s5.os = s.os) (b5 : AllBare s5.gens)
    (ha : s.heap.objs.size < a) (hgo : s5.heap.get? a = some go) (hgd : ∀ v, go.data ≠ .cell v) :
    Inv (gxCx X A (own ++ caps) s H (genEnv scope (cloFrom X.env.cells scope.names []) s.heap.objs.size code builtinsNs X.env) fp [(a, go)]) [] (gσ own cix σ) H s5 := by
  generalize hge : genEnv scope (cloFrom X.env.cells scope.names []) s.heap.objs.size code builtinsNs X.env = genv at hfr
  have gL : genv.locals = s.heap.objs.size := by rw [← hge]; rfl
  have gC : genv.cells = cloFrom X.env.cells scope.names [] := by rw [← hge]; rfl
  have gS : genv.scope = scope := by rw [← hge]; rfl
  have gF : genv.frame = some genv.locals := by rw [← hge]; rfl
  have hfree : ∀ y ∈ scope.names, y.2 = .free → ∃ c, X.env.cells.lookup y.1 = some c := fun y hy e => by
    rcases S.free y hy e with k | k
    · exact I.ok.has _ (.inl k)
    · exact I.ok.has _ (.inr k)
  have cm : ∀ {y c}, genv.cells.lookup y = some c → X.env.cells.lookup y = some c ∧ c < s.heap.objs.size := fun {y c} e => by
    rw [gC] at e
    rcases cloFrom_mem (PySem.mem_of_lookup e) with hm | ⟨h1, rfl⟩
    · cases hm
    · obtain ⟨c, hc⟩ := hfree _ h1 rfl
      rw [hc]
      obtain ⟨w, z⟩ := I.cell _ _ hc
      exact ⟨rfl, z.lt⟩
  have look : ∀ {y}, scope.names.lookup y = some .free → ∃ c, genv.cells.lookup y = some c := fun {y} hl => by
    obtain ⟨c', e'⟩ := mem_lookup (cloFrom_has (cells := X.env.cells) (acc := []) (PySem.mem_of_lookup hl))
    exact ⟨c', by rw [gC]; exact e'⟩
  have okY : (gxCx X A (own ++ caps) s H genv fp [(a, go)]).Ok := by
    refine ⟨I.ok.mod, by show genv.scope.kind = _; rw [gS]; exact S.kind, by show genv.globals = _; rw [← hge]; exact I.ok.glob, by show genv.builtins = _; rw [← hge]; rfl, by show s.heap.objs.size ≤ genv.locals; rw [gL]; exact Nat.le_refl _,
      fun y z c e1 e2 => I.ok.inj y z c (cm e1).1 (cm e2).1, fun y hy => ?_, fun y c z _ => absurd z Bool.false_ne_true, fun _ => hA, hfr, .inr ⟨rfl, gF⟩, fun b hb => ⟨?_, fun y c e z => ?_⟩, I.bs, Nat.le_trans I.ok.bsz I.sz, fun b o e hb => ?_, fun b hb z => ?_, I.stack, I.stkFree⟩
    · have key : ∀ k, genv.kindOf y = some k → (k = .cell ∨ k = .free) → ∃ c, genv.cells.lookup y = some c := fun k hk hk' => by
        unfold Env.kindOf at hk
        rw [gS] at hk
        rcases hk' with rfl | rfl
        · exact absurd rfl (S.cell _ (PySem.mem_of_lookup hk))
        · exact look hk
      rcases hy with hy | hy
      · exact key _ hy (.inl rfl)
      · exact key _ hy (.inr rfl)
    · show b ≠ genv.locals
      rw [gL]; exact Nat.ne_of_lt (hfp b hb).2
    · exact (hfp b hb).1.2.2.2.2.1 y c (cm e).1 z
    · rcases (hfp b hb).1.2.2.2.1 with z | z
      · exact I.ok.noex b o e z
      · exact absurd (Nat.lt_of_lt_of_le (Heap.lt_size e) (Nat.le_trans I.ok.bsz z)) (Nat.lt_irrefl _)
    · rcases List.mem_cons.mp (I.stkSub b z) with z | z
      · exact (hfp b hb).1.2.1 z
      · exact (hfp b hb).1.2.2.1 z
  have young : ∀ b, s.heap.objs.size ≤ b → H b = none ∧ b ∉ frs X.stack := fun b hb => by
    refine ⟨I.hok.fresh hb, fun z => ?_⟩
    rcases List.mem_cons.mp (I.stkSub b z) with z | z
    · have h1 := I.lt
      rw [← z] at h1
      exact Nat.lt_irrefl _ (Nat.lt_of_lt_of_le h1 hb)
    · exact I.nofs hb z
  refine ⟨okY, os5, b5, Un.kept k5, ?_, fun y c e => ?_, ?_, fun y c e => I.freeC y c (cm e).1, fun p hp => ?_, I.hok.kept k5, ?_⟩
  · obtain ⟨m, hm⟩ := hn
    refine ⟨m, by show s5.heap.Ns genv.locals m; rw [gL]; exact hm, fun i y v e1 e2 e3 => ?_⟩
    have e1 : (own ++ caps)[i]? = some y := e1
    have hi : own.length ≤ i := by
      by_cases hlt : i < own.length
      · unfold gσ at e2
        rw [List.getElem?_append_left (by simpa using hlt), List.getElem?_replicate, if_pos hlt] at e2
        cases e2
      · omega
    rw [List.getElem?_append_right hi] at e1
    unfold gσ at e2
    rw [List.getElem?_append_right (by simpa using hi), List.length_replicate] at e2
    obtain ⟨ix, h1, h2⟩ := S.at_ _ _ e1
    rw [List.getElem?_map, h1] at e2
    have e4 : σ[ix]? = some (some v) := by
      have e5 : (σ[ix]?).getD none = some v := Option.some.inj e2
      cases q : σ[ix]? with
      | none => rw [q] at e5; cases e5
      | some u => rw [q] at e5; exact congrArg some e5
    have hcap := S.capF y (List.mem_of_getElem? e1)
    obtain ⟨mX, _, hl⟩ := I.loc
    have hfr2 := S.free _ (PySem.mem_of_lookup hcap) rfl
    have hvis : Vis X.env.scope y := hfr2.elim (fun k => .inr (.inl k)) fun k => .inr (.inr k)
    obtain ⟨u, r, q⟩ := hl ix y v h2 e4 hvis
    refine ⟨u, r, .inr ⟨.inr (by show genv.scope.names.lookup y = _; rw [gS]; exact hcap), ?_⟩⟩
    obtain ⟨c, hc⟩ := look hcap
    rcases q with ⟨k, _⟩ | ⟨_, c', e', z⟩
    · have k : X.env.scope.names.lookup y = some .local := k
      rcases hfr2 with k' | k' <;> rw [show X.env.scope.names.lookup y = _ from k'] at k <;> cases k
    · rw [(cm hc).1] at e'; cases e'
      exact ⟨c, hc, z.keeps k5⟩
  · obtain ⟨w, z⟩ := I.cell y c (cm e).1
    exact ⟨w, z.keeps k5⟩
  · show H genv.locals = none
    rw [gL]; exact I.hok.fresh (Nat.le_refl _)
  · have hp' : p ∈ [(a, go)] := by simpa using hp
    rw [List.mem_singleton.mp hp']
    obtain ⟨y1, y2⟩ := young a (Nat.le_of_lt ha)
    exact ⟨hgo, y1, by show a ≠ genv.locals; rw [gL]; exact Nat.ne_of_gt ha, y2, hgd⟩
  · unfold gσ
    show _ = (own ++ caps).length
    rw [List.length_append, List.length_append, List.length_replicate, List.length_map, S.len]
end

theorem over_cs {A : Around} {elt : Expr} {gs : List Comprehension} {scope : Scope} {pos : Pos} {it acc : Value} {env : Env} : A.over (.compStart (.GeneratorExp elt gs scope pos) 0 it acc env) [] = A.deeper env := by
  first
    | rfl
    | (obtain ⟨hd, d, fr, gs, u⟩ := A; simp [Around.over, Around.deeper, marksOver, frameCount, unitsOf, envsOf, guardsOf, pushEnvs, pushGuards, Code.envs, Code.env?, Code.isFrame, Code.guards, Code.isGuard, Code.weight, Code.frames, Code.isCreation, Code.isCaller, Code.cUnits])
theorem over_cl {A : Around} {elt : Expr} {gs : List Comprehension} {scope : Scope} {pos : Pos} {it acc : Value} {env : Env} : A.over (.compLoop (.GeneratorExp elt gs scope pos) 0 it acc env) [] = A.deeper env := by
  first
    | rfl
    | (obtain ⟨hd, d, fr, gs, u⟩ := A; simp [Around.over, Around.deeper, marksOver, frameCount, unitsOf, envsOf, guardsOf, pushEnvs, pushGuards, Code.envs, Code.env?, Code.isFrame, Code.guards, Code.isGuard, Code.weight, Code.frames, Code.isCreation, Code.isCaller, Code.cUnits])

/-! ### the protocol: q, the value that ends the search -/
section
variable {Y : Cx} {σ' : L2.St}
def YGx (Y : Cx) (σ' : L2.St) (q : Bool) (Q : VK) : Protocol := fun n s₀ v s kap =>
  ∃ c H, v = .bool c ∧ Inv Y [] σ' H s ∧ (c = q → Q (.bl q) H) ∧ (c ≠ q → ∀ s', s'.heap = s.heap → s'.os = s.os → AllBare s'.gens → kap (.send .none) s')
def PGx (Y : Cx) (σ' : L2.St) (q : Bool) (Q : VK) : Nat → Shared → Shared → Prop := fun n s₀ s => ∃ H, Inv Y [] σ' H s ∧ Q (.bl (!q)) H
abbrev RGx (Y : Cx) (σ' : L2.St) (q : Bool) (Q : VK) : GenEnd := fun n s₀ r s => r = .ok .next ∧ PGx Y σ' q Q n s₀ s

/-- the same heap, other generators -/
theorem inv_gens {H : Hp} {s s' : Shared} (I : Inv Y [] σ' H s) (k : ∀ b o, s.heap.get? b = some o → s'.heap.get? b = some o) (ho : s'.os = s.os) (hb : AllBare s'.gens) : Inv Y [] σ' H s' :=
  I.call' (ch := []) ho (Un.kept k) (I.hok.kept k) hb fun b z => absurd z (by simp)

/-- one turn's reading: W by the turn and a measure -/
def gxW (J : It) (g : TG) (tt : TT) (te : TE) (σ' : L2.St) (q : Bool) (Q : VK) (W : Nat → Nat → Hp → Prop) : Prop := ∀ i m H, W i m H →
  (J.stop i H ∧ Q (.bl (!q)) H) ∨ (J.go i H ∧ ∃ Nx : Hp → Prop, (∀ H', Nx H' → ∃ m', m' < m ∧ W (i + 1) m' H') ∧ ∀ x H', J.yld i H x H' → g x σ' H' fun σ2 H2 => Wk σ' σ2 ∧ tt σ2 H2 fun b H3 =>
    if b = true then te σ2 H3 fun y H4 => ∃ c, y = .bl c ∧ (if c = q then Q (.bl q) H4 else Nx H4) else Nx H3)

theorem seg_gx {elt tg iter : Expr} {ifs : List Expr} {scope : Scope} {pos : Pos} {A : Around} {it : Addr} {fp : List Addr} {tn : Nat → Heap → Prop} {J : It} {g : TG} {tt : TT} {te : TE} {q : Bool} {Q : VK} {W : Nat → Nat → Hp → Prop}
    (hYA : Y.A = A.deeper Y.env) (hex : Y.ex = fp) (hpn : ∀ p ∈ Y.pn, p.1 ∉ fp) (hcalm : Y.calm = true) (hxe : Y.xe = fun _ _ => False) (hco : Y.env.scope.isCoroutine = false)
    (T : Turn Y.prog Y.w Y.K tg J fp it tn) (hg : PG Y tg g) (ht : PTs Y ifs tt) (he : PE Y elt te) (hW : gxW J g tt te σ' q Q W) :
    ∀ (m n i : Nat) (s₀ s : Shared) (H : Hp), m < n → Inv Y [] σ' H s → tn i s.heap → (∀ b ∈ fp, H b = none) → W i m H →
      Seg (model Y.prog Y.w) A (RGx Y σ' q Q) (YGx Y σ' q Q) n s₀ (.compLoop (.GeneratorExp elt [⟨tg, iter, ifs, 0⟩] scope pos) 0 (.ref it) .none Y.env)
        ((model Y.prog Y.w).den (.compLoop (.GeneratorExp elt [⟨tg, iter, ifs, 0⟩] scope pos) 0 (.ref it) .none Y.env)) [] s := by
  have stat : ∀ {σ2 : L2.St} {H' : Hp} {s' : Shared}, Inv Y [] σ2 H' s' → (∀ b ∈ fp, H' b = none) → ∀ b ∈ fp, FpOk Y [] H' b := fun {σ2 H' s'} I' hn b hb =>
    ⟨hn b hb, (I'.ok.exf b (by rw [hex]; exact hb)).1, I'.ok.exfs b (by rw [hex]; exact hb), .inl (by rw [hex]; exact hb), fun x c e => (I'.ok.exf b (by rw [hex]; exact hb)).2 x c e, fun p hp z => hpn p (by simpa using hp) (by rw [z]; exact hb)⟩
  intro m
  induction m using Nat.strongRecOn with
  | ind m ih =>
    intro n i s₀ s H hmn I st hn w
    show Seg _ A _ _ _ s₀ _ ((compTurn (.GeneratorExp elt [⟨tg, iter, ifs, 0⟩] scope pos) 0 (.ref it) .none Y.env).onRaise (leaving Y.env)) [] s
    rw [compTurn_gen, Sem.onRaise_eq_wrap]
    refine seg_bind_wrap (wpAny_standAt ?_)
    rcases hW i m H w with ⟨stop, qq⟩ | ⟨go, Nx, hNx, step⟩
    · refine seg_bind_wrap ?_
      rw [over_cl, ← hYA]
      refine wpAny_mono (T.done Y rfl rfl rfl hcalm i [] s _ H (fun _ _ => False) I (stat I hn) st stop) (fun r s1 ⟨hr, I1⟩ => ?_) fun _ _ z => False.elim z
      subst hr
      exact seg_end (.ok .next) ⟨rfl, H, I1, qq⟩
    · refine seg_bind_wrap ?_
      rw [over_cl, ← hYA]
      refine wpAny_mono (T.item Y rfl rfl rfl hcalm i [] s _ H (fun _ _ => False) I (stat I hn) st go) (fun r s1 ⟨u, hr, h1⟩ => ?_) fun _ _ z => False.elim z
      subst hr
      refine seg_bind_wrap ?_
      rw [over_cl, ← hYA]
      refine wpAny_mono h1 (fun _ s2 ⟨x, H2, I2, r2, y2, st2, n2⟩ => ?_) fun _ _ z => False.elim z
      have I2' := I2.pinned (stat I2 n2) (T.obj _ _ st2)
      refine seg_bind_wrap ?_
      rw [over_cl, ← hYA]
      have hgr := hg.run _ s2 _ H2 x u _ I2' r2 (step x H2 y2)
      rw [hxe] at hgr
      refine wpAny_mono hgr (fun _ s3 ⟨σ3, H3, I3, hw3, q3⟩ => ?_) fun _ _ z => False.elim z
      refine seg_bind_wrap ?_
      rw [over_cl, ← hYA]
      have htr := ht.run _ s3 σ3 H3 _ I3 q3
      rw [hxe] at htr
      refine wpAny_mono htr (fun b s4 ⟨H4, I4, q4⟩ => ?_) fun _ _ z => False.elim z
      have back : ∀ {s' : Shared} {H' : Hp}, Inv Y ([] ++ pinsAt fp s2.heap) σ3 H' s' → Inv Y [] σ' H' s' ∧ tn (i + 1) s'.heap ∧ ∀ b ∈ fp, H' b = none := fun {s' H'} I' => by
        have pin' : ∀ b ∈ fp, ∀ o, s2.heap.get? b = some o → s'.heap.get? b = some o ∧ H' b = none := fun b hb o e =>
          let z := I'.pin (b, o) (List.mem_append_right _ (List.mem_append_right _ (mem_pinsAt hb e)))
          ⟨z.1, z.2.1⟩
        refine ⟨(I'.unpinned (pins := [])).weak hw3.1 hw3.2, T.keep _ _ _ st2 fun b hb o e => (pin' b hb o e).1, fun b hb => ?_⟩
        obtain ⟨o, e, _⟩ := T.obj _ _ st2 b hb
        exact (pin' b hb o e).2
      cases b with
      | false =>
        simp only [Bool.false_eq_true, if_false] at q4 ⊢
        obtain ⟨m', hm, w'⟩ := hNx H4 q4
        obtain ⟨J4, st4, n4⟩ := back I4
        exact seg_again rfl (ih m' hm n (i + 1) s₀ s4 H4 (by omega) J4 st4 n4 w')
      | true =>
        simp only [if_true] at q4 ⊢
        have hy : ∀ v, yieldOut Y.env v = yieldValue v := fun v => by simp only [yieldOut, hco, Bool.false_eq_true, if_false]
        simp only [hy]
        rw [Sem.bind_eq_wrap', Sem.bind_eq_wrap', Sem.wrap_wrap, Sem.wrap_wrap]
        refine seg_wrap ?_
        rw [over_cl, ← hYA]
        have her := he.run _ s4 σ3 H4 _ I4 q4
        rw [hxe] at her
        refine wpAny_mono her (fun v s5 ⟨y, H5, I5, r5, c, ec, q5⟩ => ?_) fun _ _ z => False.elim z
        subst ec
        obtain rfl : v = Value.bool c := r5
        obtain ⟨J5, st5, n5⟩ := back I5
        obtain ⟨n, rfl⟩ : ∃ n', n = n' + 1 := by
          exact ⟨n - 1, by omega⟩
        refine seg_at (seg_yield rfl rfl rfl ⟨c, H5, rfl, J5, fun e => ?_, fun e s' hh ho hb => ?_⟩)
        · rw [if_pos e] at q5
          exact q5
        · rw [if_neg e] at q5
          obtain ⟨m', hm, w'⟩ := hNx H5 q5
          exact seg_again rfl (ih m' hm n (i + 1) s' s' H5 (by omega) (inv_gens J5 (fun b o z => by rw [hh]; exact z) ho hb) (by rw [hh]; exact st5) n5 w')

theorem seg_gxS {elt tg iter : Expr} {ifs : List Expr} {scope : Scope} {pos : Pos} {A : Around} {it : Addr} {fp : List Addr} {tn : Nat → Heap → Prop} {J : It} {g : TG} {tt : TT} {te : TE} {q : Bool} {Q : VK} {W : Nat → Nat → Hp → Prop}
    (hYA : Y.A = A.deeper Y.env) (hex : Y.ex = fp) (hpn : ∀ p ∈ Y.pn, p.1 ∉ fp) (hcalm : Y.calm = true) (hxe : Y.xe = fun _ _ => False) (hco : Y.env.scope.isCoroutine = false)
    (T : Turn Y.prog Y.w Y.K tg J fp it tn) (hg : PG Y tg g) (ht : PTs Y ifs tt) (he : PE Y elt te) (hW : gxW J g tt te σ' q Q W)
    {m n : Nat} {s₀ s : Shared} {H : Hp} (hmn : m < n) (I : Inv Y [] σ' H s) (st : tn 0 s.heap) (hn : ∀ b ∈ fp, H b = none) (w : W 0 m H) :
      Seg (model Y.prog Y.w) A (RGx Y σ' q Q) (YGx Y σ' q Q) n s₀ (.compStart (.GeneratorExp elt [⟨tg, iter, ifs, 0⟩] scope pos) 0 (.ref it) .none Y.env)
        ((model Y.prog Y.w).den (.compStart (.GeneratorExp elt [⟨tg, iter, ifs, 0⟩] scope pos) 0 (.ref it) .none Y.env)) [] s := by
  have loop := seg_gx (elt := elt) (iter := iter) (ifs := ifs) (scope := scope) (pos := pos) hYA hex hpn hcalm hxe hco T hg ht he hW m n 0 s₀ s H hmn I st hn w
  show Seg _ A _ _ _ s₀ _ ((compStart (.GeneratorExp elt [⟨tg, iter, ifs, 0⟩] scope pos) 0 (.ref it) .none Y.env).onRaise (leaving Y.env)) [] s
  unfold compStart
  rw [Sem.onRaise_eq_wrap]
  show Seg _ A _ _ _ s₀ _ ((ask >>= _).wrap _ _ _ _) [] s
  refine seg_bind_wrap (wpAny_askSetting ?_)
  split
  · exact seg_again rfl loop
  · first
      | exact seg_bind_wrap (wpAny_rule (seg_bind_wrap (wpAny_standAt (seg_bind_wrap (T.self _ 0 s _ _ st (seg_again rfl loop))))))
      | (refine seg_bind_wrap (wpAny_rule ?_); show Seg _ A _ _ _ s₀ _ ((standAt iter.pos >>= _).wrap _ _ _ _) [] s; exact seg_bind_wrap (wpAny_standAt (seg_bind_wrap (T.self _ 0 s _ _ st (seg_again rfl loop)))))

/-! ### the consumers -/
theorem inv_set {H : Hp} {s : Shared} {g : Nat} {x : GenState} (I : Inv Y [] σ' H s) (hx : x.bare = true) : Inv Y [] σ' H (s.setGen g x) :=
  inv_gens I (fun _ _ z => z) rfl (allBare_setGen I.bare hx)
theorem pin_gen {H : Hp} {s : Shared} {a : Addr} {go : Obj} {g : Nat} (hp : Y.pn = [(a, go)]) (hg : ∀ h : Heap, h.get? a = some go → h.IsGen a g) (I : Inv Y [] σ' H s) : s.heap.IsGen a g :=
  hg _ (I.pin (a, go) (by rw [hp]; exact List.mem_append_left _ (List.mem_singleton.mpr rfl))).1

/-- what the end of the consumer's loop knows -/
def GxEnd (Y : Cx) (σ' : L2.St) (Q : VK) (r : Result) (s' : Shared) : Prop := ∃ b H, r = .ok (.ret (.bool b)) ∧ Inv Y [] σ' H s' ∧ Q (.bl b) H

theorem gx_next {A : Around} {a : Addr} {go : Obj} {g : Nat} {q : Bool} {Q : VK} {n : Nat} {s : Shared} {H : Hp} {Z : Option Value → Shared → Prop} {E : Value → Shared → Prop} (hp : Y.pn = [(a, go)]) (hg : ∀ h : Heap, h.get? a = some go → h.IsGen a g) (hh : A.handled = none) (hd : A.depth < recursionLimit)
    (I : Inv Y [] σ' H s) (h : ∃ gs, s.gens[g]? = some gs ∧ gs.Goes (model Y.prog Y.w) A.in1 (RGx Y σ' q Q) (YGx Y σ' q Q) n (.send .none) (s.setGen g .running))
    (hN : ∀ s' H', Inv Y [] σ' H' s' → Q (.bl (!q)) H' → Z none s')
    (hQ : ∀ s' H', Inv Y [] σ' H' s' → Q (.bl q) H' → Z (some (.bool q)) s')
    (hM : ∀ s' H' n', n = n' + 1 → Inv Y [] σ' H' s' → (∃ gs, s'.gens[g]? = some gs ∧ gs.Goes (model Y.prog Y.w) A.in1 (RGx Y σ' q Q) (YGx Y σ' q Q) n' (.send .none) (s'.setGen g .running)) → Z (some (.bool (!q))) s') :
    wpAny (model Y.prog Y.w) A (pyNext (.ref a)) Z E s := by
  obtain ⟨gs, hgs, hgo⟩ := h
  have hgl : g < s.gens.size := (Array.getElem?_eq_some_iff.mp hgs).1
  refine wpAny_gsz (n := g + 1) hgl (wpAny_pyNext_genexpQ (A := A) (P := PGx Y σ' q Q) hh I.nolimit hd (pin_gen hp hg I) hgs hgo (fun v s₁ gs' hb hv => ?_) (fun s₁ hP h' hk => ?_))
  · intro hsz
    obtain ⟨c, H1, rfl, I1, h1, h2⟩ := hv
    have I2 : Inv Y [] σ' H1 (s₁.setGen g gs') := inv_set I1 hb
    by_cases hc : c = q
    · subst hc
      exact hQ _ H1 I2 (h1 rfl)
    · have ec : c = !q := by cases c <;> cases q <;> simp_all
      subst ec
      have kap := h2 hc ((s₁.setGen g gs').setGen g .running) rfl rfl (allBare_setGen (allBare_setGen I1.bare hb) rfl)
      cases n with
      | zero => exact False.elim kap
      | succ n =>
        refine hM _ H1 n rfl I2 ⟨gs', setGen_at ?_, kap⟩
        have q := hsz
        rw [setGen_size] at q
        exact q
  · intro _
    obtain ⟨H1, I1, q1⟩ := hP
    refine hN _ H1 (inv_gens I1 ?_ rfl (allBare_setGen I1.bare rfl)) q1
    exact fun b o z => hk b o z

theorem all_gx {A : Around} {a : Addr} {go : Obj} {g : Nat} {Q : VK} (hp : Y.pn = [(a, go)]) (hg : ∀ h : Heap, h.get? a = some go → h.IsGen a g) (hh : A.handled = none) (hd : A.depth < recursionLimit) :
    ∀ (n : Nat) (s : Shared) (H : Hp), Inv Y [] σ' H s → (∃ gs, s.gens[g]? = some gs ∧ gs.Goes (model Y.prog Y.w) A.in1.in1 (RGx Y σ' false Q) (YGx Y σ' false Q) n (.send .none) (s.setGen g .running)) →
      codeAny (model Y.prog Y.w) A (.builtin "all.loop" ⟨[.ref a], []⟩) (GxEnd Y σ' Q) s := by
  intro n
  induction n with
  | zero =>
    intro s H I h
    refine codeAny_builtin F.entry_all_loop ?_
    rw [Around.under_plainId F.plain_all_loop _]
    show wpAny _ A.in1 (pyNext (.ref a) >>= _) _ _ s
    refine wpAny_bind (gx_next (A := A.in1) hp hg hh hd I h (fun s' H' I' q' => ?_) (fun s' H' I' q' => ?_) fun s' H' n' e _ _ => by omega)
    · exact wpAny_bind (wpAny_rule (wpAny_pure ⟨true, H', rfl, I', q'⟩))
    · refine wpAny_bind (wpAny_holding (wpAny_truthy_bool ?_))
      refine wpAny_bind (wpAny_letGo ?_)
      simp only [Bool.false_eq_true, if_false]
      exact wpAny_bind (wpAny_rule (wpAny_pure ⟨false, H', rfl, I', q'⟩))
  | succ n ih =>
    intro s H I h
    refine codeAny_builtin F.entry_all_loop ?_
    rw [Around.under_plainId F.plain_all_loop _]
    show wpAny _ A.in1 (pyNext (.ref a) >>= _) _ _ s
    refine wpAny_bind (gx_next (A := A.in1) hp hg hh hd I h (fun s' H' I' q' => ?_) (fun s' H' I' q' => ?_) fun s' H' n' e I' h' => ?_)
    · exact wpAny_bind (wpAny_rule (wpAny_pure ⟨true, H', rfl, I', q'⟩))
    · refine wpAny_bind (wpAny_holding (wpAny_truthy_bool ?_))
      refine wpAny_bind (wpAny_letGo ?_)
      simp only [Bool.false_eq_true, if_false]
      exact wpAny_bind (wpAny_rule (wpAny_pure ⟨false, H', rfl, I', q'⟩))
    · obtain rfl : n = n' := by omega
      refine wpAny_bind (wpAny_holding (wpAny_truthy_bool ?_))
      refine wpAny_bind (wpAny_letGo ?_)
      simp only [Bool.not_false, if_true]
      exact wpAny_pure ⟨plainId_quiet F.plain_all_loop _, ih s' H' I' h'⟩
theorem any_gx {A : Around} {a : Addr} {go : Obj} {g : Nat} {Q : VK} (hp : Y.pn = [(a, go)]) (hg : ∀ h : Heap, h.get? a = some go → h.IsGen a g) (hh : A.handled = none) (hd : A.depth < recursionLimit) :
    ∀ (n : Nat) (s : Shared) (H : Hp), Inv Y [] σ' H s → (∃ gs, s.gens[g]? = some gs ∧ gs.Goes (model Y.prog Y.w) A.in1.in1 (RGx Y σ' true Q) (YGx Y σ' true Q) n (.send .none) (s.setGen g .running)) →
      codeAny (model Y.prog Y.w) A (.builtin "any.loop" ⟨[.ref a], []⟩) (GxEnd Y σ' Q) s := by
  intro n
  induction n with
  | zero =>
    intro s H I h
    refine codeAny_builtin F.entry_any_loop ?_
    rw [Around.under_plainId F.plain_any_loop _]
    show wpAny _ A.in1 (pyNext (.ref a) >>= _) _ _ s
    refine wpAny_bind (gx_next (A := A.in1) hp hg hh hd I h (fun s' H' I' q' => ?_) (fun s' H' I' q' => ?_) fun s' H' n' e _ _ => by omega)
    · exact wpAny_bind (wpAny_rule (wpAny_pure ⟨false, H', rfl, I', q'⟩))
    · refine wpAny_bind (wpAny_holding (wpAny_truthy_bool ?_))
      refine wpAny_bind (wpAny_letGo ?_)
      simp only [if_true]
      exact wpAny_bind (wpAny_rule (wpAny_pure ⟨true, H', rfl, I', q'⟩))
  | succ n ih =>
    intro s H I h
    refine codeAny_builtin F.entry_any_loop ?_
    rw [Around.under_plainId F.plain_any_loop _]
    show wpAny _ A.in1 (pyNext (.ref a) >>= _) _ _ s
    refine wpAny_bind (gx_next (A := A.in1) hp hg hh hd I h (fun s' H' I' q' => ?_) (fun s' H' I' q' => ?_) fun s' H' n' e I' h' => ?_)
    · exact wpAny_bind (wpAny_rule (wpAny_pure ⟨false, H', rfl, I', q'⟩))
    · refine wpAny_bind (wpAny_holding (wpAny_truthy_bool ?_))
      refine wpAny_bind (wpAny_letGo ?_)
      simp only [if_true]
      exact wpAny_bind (wpAny_rule (wpAny_pure ⟨true, H', rfl, I', q'⟩))
    · obtain rfl : n = n' := by omega
      refine wpAny_bind (wpAny_holding (wpAny_truthy_bool ?_))
      refine wpAny_bind (wpAny_letGo ?_)
      simp only [Bool.not_true, Bool.false_eq_true, if_false]
      exact wpAny_pure ⟨plainId_quiet F.plain_any_loop _, ih s' H' I' h'⟩
end
end Gx
set_option Elab.async false
set_option linter.all false
set_option maxRecDepth 100000
set_option maxHeartbeats 2000000
namespace Gx
open PySem PySem.Spec PyProof.Rows L2 GenW

/-- all(..), any(..) of a generator expression; q: the value that ends the search; P: the table of the def's code object -/
def tGx (P : Addr) (wi : TI) (g : TG) (tt : TT) (te : TE) (own : List Str) (cix : List Nat) (q : Bool) : TE := fun σ H Q => wi σ H fun J H1 => GxR.TabG H1 P ∧ ∀ H2, GxR.Tabbed P H1 H2 →
  ∃ (W : Nat → Nat → Hp → Prop) (m : Nat), W 0 m H2 ∧ gxW J g tt te (gσ own cix σ) q Q W
/-- the context within, as the frame is made -/
abbrev gxAt (X : Cx) (own caps : List Str) (scope : Scope) (A : Around) (s : Shared) (H : Hp) (C : Addr) (cl : List (Str × Addr)) (code : Value) (bi : Addr) (fp : List Addr) (pn : List (Addr × Obj)) : Cx :=
  gxCx X A (own ++ caps) s H (genEnv scope cl C code bi X.env) fp pn

theorem boot_all : bootBuiltins "all" = some (.builtin "all") := by decide +kernel
theorem boot_any : bootBuiltins "any" = some (.builtin "any") := by decide +kernel
section
variable {X : Cx} {pins : List (Addr × Obj)} {σ : L2.St} {H : Hp} {s : Shared}
theorem gx_make {c P : Addr} {elt tg iter : Expr} {ifs : List Expr} {gpos : Pos} {scope : Scope} {own caps : List Str} {cix : List Nat} {wi : TI} {g : TG} {tt : TT} {te : TE} {q : Bool} {k : Nat} {Q : VK} {Q' : Value → Shared → Prop}
    (hr : Room (k + 1) X.A) (TB : GxR.TabB X.base X.mg c P) (hcode : X.env.code = .ref c) (S : GxS X.env.scope X.N scope own caps cix) (hi : PI X tg iter wi)
    (hg : ∀ A s H C cl code bi fp pn, Room k A → PG (gxAt X own caps scope A s H C cl code bi fp pn) tg g) (ht : ∀ A s H C cl code bi fp pn, Room k A → PTs (gxAt X own caps scope A s H C cl code bi fp pn) ifs tt)
    (he : ∀ A s H C cl code bi fp pn, Room k A → PE (gxAt X own caps scope A s H C cl code bi fp pn) elt te)
    (hs : ∀ v, genFold iter X.env v = pure v) (I : Inv X pins σ H s) (h : tGx P wi g tt te own cix q σ H Q)
    (hQ : ∀ (Y : Cx) (a : Addr) (go : Obj) (gi n : Nat) (s5 : Shared) (H5 : Hp), Y.prog = X.prog → Y.w = X.w → Y.pn = [(a, go)] → (∀ h : Heap, h.get? a = some go → h.IsGen a gi) → Inv Y [] (gσ own cix σ) H5 s5 →
      (∀ s6 : Shared, s6.gens = s5.gens → (∀ b o, s5.heap.get? b = some o → s6.heap.get? b = some o) → s6.os = s5.os → ∃ gs : GenState, s6.gens[gi]? = some gs ∧ gs.Goes (model X.prog X.w) X.A.in1.in1 (RGx Y (gσ own cix σ) q Q) (YGx Y (gσ own cix σ) q Q) n (.send .none) (s6.setGen gi .running)) →
      (∀ s' H' v, Inv Y [] (gσ own cix σ) H' s' → Q v H' → ∀ u, RelV v u → EP X pins σ Q u s') → Q' (.ref a) s5) :
    wpAny (model X.prog X.w) X.A (eval (.GeneratorExp elt [⟨tg, iter, ifs, 0⟩] scope gpos) X.env) Q' X.xe s := by
  have hfree : ∀ y ∈ scope.names, y.2 = .free → ∃ c, X.env.cells.lookup y.1 = some c := fun y hy e => by
    rcases S.free y hy e with k | k
    · exact I.ok.has _ (.inl k)
    · exact I.ok.has _ (.inr k)
  refine wpAny_GeneratorExp_make S.co (closure_ok hfree) S.cell S.dot S.kind hr.depth (thn (hi.run pins s σ H _ I h) fun xv s1 hx => thn hx fun itv s2 h2 => ?_) hs
  obtain ⟨it, fp, tn, J, H2, e, I2, T, st2, f2, ⟨ps, hP, htr⟩, q2⟩ := h2
  subst e
  have hPs : s2.heap.get? P = some { cls := .none, data := .fields ps } := I2.hok P _ hP
  have hPlt : P < s2.heap.objs.size := Heap.lt_size hPs
  have cd : PySem.W.CodeHd s2.heap c P := TB.code.keeps I2.bk
  have sz : ∀ b ∈ fp, b < s2.heap.objs.size := fun b hb => by
    obtain ⟨o, e, _⟩ := T.obj _ _ st2 b hb
    exact Heap.lt_size e
  have nfP : ∀ b ∈ fp, b ≠ P := fun b hb e => by
    have := (f2 b hb).1
    rw [e, hP] at this
    cases this
  have cont : ∀ (code : Value) (h3 : Heap) (tk : Nat) (ps' : Array Value), Heap.ExtBut P s2.heap h3 → s2.heap.objs.size ≤ h3.objs.size → h3.get? P = some { cls := .none, data := .fields ps' } → (∃ more, ps' = ps ++ more) → TriplesOk ps'.toList →
      wpAny (model X.prog X.w) X.A (builtinsFor X.env.globals X.env.builtins) (fun bi s₄ =>
        ∀ h', h'.Ns s₄.heap.objs.size (fun y => if y = ".0" then some (.ref it) else none) → Heap.SameBut s₄.heap.objs.size (s₄.heap.push { cls := .type "frame", data := .dict #[] }) h' →
          Q' (.ref h'.objs.size) { s₄ with
            gens := s₄.gens.push (.fresh (.compStart (.GeneratorExp elt [⟨tg, iter, ifs, 0⟩] scope gpos) 0 (.ref it) .none (genEnv scope (cloFrom X.env.cells scope.names []) s₄.heap.objs.size code bi X.env))),
            toks := s₄.toks + 1 + 1 + 1,
            heap := h'.push { cls := .type "generator", data := .fields #[.int s₄.gens.size 0, .str "<genexpr>" (s₄.toks + 1), .str (X.env.qual ++ "<genexpr>") (s₄.toks + 1 + 1)] } }) X.xe { s2 with heap := h3, toks := tk } := by
    intro code h3 tk ps' hx hsz hP3 hmore ht3
    obtain ⟨bm, ob, e1, e2, e3, e4, e5, e6, e7, e8⟩ := TB.bm
    have keep3 : ∀ b u, b ≠ P → s2.heap.get? b = some u → h3.get? b = some u := fun b u hb e => hx b u hb e
    refine wpAny_builtinsFor (m := X.mg) (by rw [I2.ok.glob]; exact (I2.mod.glob.keeps I2.bk).extBut hx TB.gP) e1 e2 (keep3 _ _ e4 (I2.bk _ _ e5)) e6 e7 e8 ?_
    obtain ⟨more, em⟩ := hmore
    have I4 : Inv X pins σ (upd H2 P (.tbl (ps ++ more))) { s2 with heap := h3, toks := tk } :=
      GxR.inv_tab (g' := s2.gens) (d' := s2.drawn) I2 hP keep3 (by rw [← em]; exact hP3) I2.bare
    have tb : GxR.Tabbed P H2 (upd H2 P (.tbl (ps ++ more))) := ⟨⟨ps ++ more, upd_same, by rw [← em]; exact ht3⟩, fun b hb => upd_ne hb⟩
    obtain ⟨W, m, w0, hW⟩ := q2 _ tb
    generalize hH4 : upd H2 P (.tbl (ps ++ more)) = H4 at I4 w0 tb
    generalize hs4 : ({ s2 with heap := h3, toks := tk } : Shared) = s4 at I4 ⊢
    have h4 : s4.heap = h3 := by rw [← hs4]
    have g4 : s4.gens = s2.gens := by rw [← hs4]
    have f4 : ∀ b ∈ fp, FpOk X pins H4 b ∧ b < s4.heap.objs.size := fun b hb => by
      refine ⟨⟨?_, (f2 b hb).2⟩, by rw [h4]; exact Nat.lt_of_lt_of_le (sz b hb) hsz⟩
      rw [tb.2 b (nfP b hb)]
      exact (f2 b hb).1
    have st4 : tn 0 s4.heap := T.keep _ _ _ st2 fun b hb o e => by rw [h4]; exact keep3 b o (nfP b hb) e
    intro h' hn' hs'
    have hsz' : h'.objs.size = s4.heap.objs.size + 1 := by rw [hs'.1, Heap.size_push]
    have keep' : ∀ b o, s4.heap.get? b = some o → h'.get? b = some o := fun b o e => hs'.extBut b o (Nat.ne_of_lt (Heap.lt_size e)) (Heap.get?_push_of_some _ e)
    generalize hgo : ({ cls := .type "generator", data := .fields #[.int s4.gens.size 0, .str "<genexpr>" (s4.toks + 1), .str (X.env.qual ++ "<genexpr>") (s4.toks + 1 + 1)] } : Obj) = go
    have goG : ∀ h : Heap, h.get? h'.objs.size = some go → h.IsGen h'.objs.size s4.gens.size := fun h e => ⟨go, _, _, e, by rw [← hgo], by rw [← hgo], by rw [← hgo]⟩
    have hgetg : (h'.push go).get? h'.objs.size = some go := by
      rw [← hgo]
      exact Heap.get?_push_size _ rfl
    have hgd : ∀ v, go.data ≠ .cell v := fun v q => by rw [← hgo] at q; cases q
    have keep5 : ∀ b o, s4.heap.get? b = some o → (h'.push go).get? b = some o := fun b o e => Heap.get?_push_of_some _ (keep' b o e)
    generalize hc0 : (.compStart (.GeneratorExp elt [⟨tg, iter, ifs, 0⟩] scope gpos) 0 (.ref it) .none (genEnv scope (cloFrom X.env.cells scope.names []) s4.heap.objs.size code builtinsNs X.env) : Code) = c0
    have I5 : Inv (gxCx X (X.A.in1.in1.deeper (genEnv scope (cloFrom X.env.cells scope.names []) s4.heap.objs.size code builtinsNs X.env)) (own ++ caps) s4 H4 (genEnv scope (cloFrom X.env.cells scope.names []) s4.heap.objs.size code builtinsNs X.env) fp [(h'.objs.size, go)]) [] (gσ own cix σ) H4
        { s4 with gens := s4.gens.push (.fresh c0), toks := s4.toks + 1 + 1 + 1, heap := h'.push go } := by
      refine gx_start I4 S f4 hr.hd ?_ keep5 ⟨_, hn'.push _⟩ rfl (AllBare.push I4.bare rfl) (by omega) hgetg hgd
      show X.A.frames.map _ = _
      rw [I4.ok.frames]
      rfl
    have hr' : Room k (X.A.in1.in1.deeper (genEnv scope (cloFrom X.env.cells scope.names []) s4.heap.objs.size code builtinsNs X.env)) :=
      ⟨hr.hd, by have := hr.dp; show X.A.depth + 1 + 3 * k + 5 < _; omega, by have := hr.un; show X.A.units + 1 + 1 + 3 + 16 * k + 200 < _; omega⟩
    have hpn : ∀ p ∈ [(h'.objs.size, go)], p.1 ∉ fp := fun p hp hb => by
      rw [List.mem_singleton.mp hp] at hb
      have h6 := (f4 _ hb).2
      have h7 : (h'.objs.size : Nat) < s4.heap.objs.size := h6
      omega
    refine hQ (gxCx X (X.A.in1.in1.deeper (genEnv scope (cloFrom X.env.cells scope.names []) s4.heap.objs.size code builtinsNs X.env)) (own ++ caps) s4 H4 (genEnv scope (cloFrom X.env.cells scope.names []) s4.heap.objs.size code builtinsNs X.env) fp [(h'.objs.size, go)]) h'.objs.size go s4.gens.size (m + 1) _ H4 rfl rfl rfl goG I5 (fun s6 hg6 hk6 ho6 => ⟨.fresh c0, ?_, rfl, ?_⟩) fun s' H' v I' hv u ru => ?_
    · rw [hg6]
      exact Array.getElem?_push_size ..
    · have J6 := inv_gens (s' := s6.setGen s4.gens.size .running) I5 hk6 ho6 (allBare_setGen (by rw [hg6]; exact I5.bare) rfl)
      rw [← hc0]
      exact seg_gxS (A := X.A.in1.in1) rfl rfl hpn rfl rfl S.co T (hg _ _ _ _ _ _ _ _ _ hr') (ht _ _ _ _ _ _ _ _ _ hr') (he _ _ _ _ _ _ _ _ _ hr') hW (Nat.lt_succ_self m) J6 (T.keep _ _ _ st4 fun b hb o e => hk6 b o (keep5 b o e)) (fun b hb => (f4 b hb).1.1) w0
    · exact ⟨v, H', I4.call' (ch := fp) I'.os I'.base I'.hok I'.bare fun b hb => ⟨(f4 b hb).1.2.2.2.1, (f4 b hb).1.2.1, (f4 b hb).1.2.2.2.2.1, (f4 b hb).1.2.2.2.2.2⟩, ru, hv⟩
  refine ⟨I2.nolimit, ?_⟩
  cases hf : codeAmong gpos ps.toList with
  | none =>
    refine wpAny_genexprCodeX hcode (cd.code hPs htr) (cd.tab hPs) hf fun c' h' tk hx hge hlt hco' _ htab' _ => ?_
    obtain ⟨o1, vs, f1, tf, fl, tg', inF, tx, tt', op, _, _, _, _, _, _, _, _, _, htr', _⟩ := hco'
    exact cont _ h' tk _ hx (Nat.le_trans hge (Nat.le_of_lt hlt)) htab'.2 ⟨_, rfl⟩ htr'
  | some cv =>
    refine wpAny_genexprCode_hit hcode (cd.code hPs htr) hf ?_
    exact cont cv s2.heap s2.toks ps (Heap.ExtBut.refl _ _) (Nat.le_refl _) hPs ⟨#[], by simp⟩ htr

variable {c P : Addr} {elt tg iter : Expr} {ifs : List Expr} {p pos gpos : Pos} {scope : Scope} {own caps : List Str} {cix : List Nat} {wi : TI} {g : TG} {tt : TT} {te : TE} {k : Nat}
theorem pe_allG (hr : Room (k + 1) X.A) (hgl : Gl X "all") (hm : X.mg "all" = none) (TB : GxR.TabB X.base X.mg c P) (hcode : X.env.code = .ref c) (S : GxS X.env.scope X.N scope own caps cix) (hi : PI X tg iter wi)
    (hg : ∀ A s H C cl code bi fp pn, Room k A → PG (gxAt X own caps scope A s H C cl code bi fp pn) tg g) (ht : ∀ A s H C cl code bi fp pn, Room k A → PTs (gxAt X own caps scope A s H C cl code bi fp pn) ifs tt)
    (he : ∀ A s H C cl code bi fp pn, Room k A → PE (gxAt X own caps scope A s H C cl code bi fp pn) elt te)
    (hs : ∀ v, genFold iter X.env v = pure v := by intro _; rfl)
    (hst : starEach [.GeneratorExp elt [⟨tg, iter, ifs, 0⟩] scope gpos] X.env = (false, eval (.GeneratorExp elt [⟨tg, iter, ifs, 0⟩] scope gpos) X.env) :: starEach [] X.env := by rfl) :
    PE X (.Call (.Name "all" p) [.GeneratorExp elt [⟨tg, iter, ifs, 0⟩] scope gpos] [] pos) (tGx P wi g tt te own cix false) := by
  refine ⟨fun pins s σ H Q I h => ?_⟩
  refine wpAny_Call_Name_kw (ld_blt I hgl hm boot_all ?_)
  refine PyProof.Rows.callWith_builtin1 ?_ hst (by rfl)
  rw [hst]
  show wpAny _ _ (spliced ((false, eval (.GeneratorExp elt [⟨tg, iter, ifs, 0⟩] scope gpos) X.env) :: backTo pos (starEach [] X.env))) _ _ s
  refine Calls.spliced_cons (gx_make hr TB hcode S hi hg ht he hs I h fun Y a go gi n s5 H5 eP ew hp goG I5 hgoes hback => ?_)
  refine Calls.spliced_nil ?_
  have hd := hr.depth
  refine call_function_tree F.kind_all F.plain_all F.entry_all (F.args_all1 _) ?_
  unfold Builtin.«all»
  refine wpAny_bind (m := oneArg "all" _) (wpAny_pure ?_)
  refine wpAny_bind (wpAny_pyIter_gen (s := s5) (pin_gen hp goG I5) ?_)
  refine wpAny_pure ⟨plainId_quiet F.plain_all_loop _, ?_⟩
  rw [← eP, ← ew] at hgoes ⊢
  refine codeAny_mono (all_gx (A := X.A) hp goG hr.hd hd n s5 H5 I5 (hgoes s5 rfl (fun _ _ z => z) rfl)) fun r s' ⟨b, H', er, I', q'⟩ => ?_
  subst er
  exact hback s' H' (.bl b) I' q' _ rfl
theorem pe_anyG (hr : Room (k + 1) X.A) (hgl : Gl X "any") (hm : X.mg "any" = none) (TB : GxR.TabB X.base X.mg c P) (hcode : X.env.code = .ref c) (S : GxS X.env.scope X.N scope own caps cix) (hi : PI X tg iter wi)
    (hg : ∀ A s H C cl code bi fp pn, Room k A → PG (gxAt X own caps scope A s H C cl code bi fp pn) tg g) (ht : ∀ A s H C cl code bi fp pn, Room k A → PTs (gxAt X own caps scope A s H C cl code bi fp pn) ifs tt)
    (he : ∀ A s H C cl code bi fp pn, Room k A → PE (gxAt X own caps scope A s H C cl code bi fp pn) elt te)
    (hs : ∀ v, genFold iter X.env v = pure v := by intro _; rfl)
    (hst : starEach [.GeneratorExp elt [⟨tg, iter, ifs, 0⟩] scope gpos] X.env = (false, eval (.GeneratorExp elt [⟨tg, iter, ifs, 0⟩] scope gpos) X.env) :: starEach [] X.env := by rfl) :
    PE X (.Call (.Name "any" p) [.GeneratorExp elt [⟨tg, iter, ifs, 0⟩] scope gpos] [] pos) (tGx P wi g tt te own cix true) := by
  refine ⟨fun pins s σ H Q I h => ?_⟩
  refine wpAny_Call_Name_kw (ld_blt I hgl hm boot_any ?_)
  refine PyProof.Rows.callWith_builtin1 ?_ hst (by rfl)
  rw [hst]
  show wpAny _ _ (spliced ((false, eval (.GeneratorExp elt [⟨tg, iter, ifs, 0⟩] scope gpos) X.env) :: backTo pos (starEach [] X.env))) _ _ s
  refine Calls.spliced_cons (gx_make hr TB hcode S hi hg ht he hs I h fun Y a go gi n s5 H5 eP ew hp goG I5 hgoes hback => ?_)
  refine Calls.spliced_nil ?_
  have hd := hr.depth
  refine call_function_tree F.kind_any F.plain_any F.entry_any (F.args_any1 _) ?_
  unfold Builtin.«any»
  refine wpAny_bind (m := oneArg "any" _) (wpAny_pure ?_)
  refine wpAny_bind (wpAny_pyIter_gen (s := s5) (pin_gen hp goG I5) ?_)
  refine wpAny_pure ⟨plainId_quiet F.plain_any_loop _, ?_⟩
  rw [← eP, ← ew] at hgoes ⊢
  refine codeAny_mono (any_gx (A := X.A) hp goG hr.hd hd n s5 H5 I5 (hgoes s5 rfl (fun _ _ z => z) rfl)) fun r s' ⟨b, H', er, I', q'⟩ => ?_
  subst er
  exact hback s' H' (.bl b) I' q' _ rfl
end
end Gx
set_option Elab.async false
set_option linter.all false
set_option maxRecDepth 100000
set_option maxHeartbeats 2000000
namespace Gx
open PySem PySem.Spec PyProof.Rows L2 RT
section
variable {prog : Program} {w : World} {A : Around} {E : Value → Shared → Prop} {s : Shared}
/-- list(a list's reverse iterator) -/
theorem call_list_rev {it l : Addr} {items : Array Value} {Q : Value → Shared → Prop} (hh : A.handled = none) (hit : s.heap.IsRevIter it l ((items.size : Int) - 1)) (hl : s.heap.IsList l items) (hne : l ≠ it) (hn : items.size ≤ sizeLine)
    (hQ : ∀ (h' : Heap) (tk : Nat) (acc : Array Value) (c : Nat), (∀ b o, b ≠ it → s.heap.get? b = some o → h'.get? b = some o) → h'.get? s.heap.objs.size = some { cls := .type "list", dict := none, data := .seq acc c, slots := #[] } →
      ItemsOf (fun i v => items[items.size - 1 - i]? = some v) acc items.size → Q (.ref s.heap.objs.size) { s with heap := h', toks := tk }) :
    wpAny (model prog w) A (call (.type "list") [.ref it]) Q E s := by
  obtain ⟨oi, hoi, _⟩ := id hit
  obtain ⟨ol, hol, _⟩ := id hl
  have hSi : s.heap.objs.size ≠ it := Nat.ne_of_gt (Heap.lt_size hoi)
  have hSl : s.heap.objs.size ≠ l := Nat.ne_of_gt (Heap.lt_size hol)
  have hSf : s.heap.objs.size ∉ [it, l] := by simp only [List.mem_cons, List.not_mem_nil, or_false, not_or]; exact ⟨hSi, hSl⟩
  refine callType_codes (Q₁ := fun obj s₁ => obj = .ref s.heap.objs.size ∧ s₁ = { s with heap := s.heap.push { cls := .type "list", data := .seq #[] } }) F.called_list (F.typeCall_list_1 _) F.entry_list_init (code_list_new _ ⟨rfl, rfl⟩) fun obj s₁ h₁ => ?_
  obtain ⟨rfl, rfl⟩ := h₁
  have hS : (s.heap.push { cls := .type "list", data := .seq #[] }).get? s.heap.objs.size = some { cls := .type "list", data := .seq #[] } := Heap.get?_push_size _ rfl
  refine ⟨⟨_, hS, rfl⟩, F.args_list_init_2 _ _, ?_⟩
  have W := (Walks.listRev (prog := prog) (w := w) (A := A.in1.in1) hh it l hne items).toS
  show wpAny _ A.in1.in1 (do let old ← Builtin.List.listItems (.ref s.heap.objs.size); Builtin.List.listUpdate (.ref s.heap.objs.size) (fun _ => #[]); letGo old.toList.reverse; Builtin.List.listExtendWith (.ref s.heap.objs.size) (.ref it) .none) _ _ _
  refine wpAny_bind ?_
  unfold Builtin.List.listItems
  refine wpAny_bind (wpAny_seqItems hS rfl (wpAny_pure ?_))
  show wpAny _ A.in1.in1 (updateSeq s.heap.objs.size (fun _ => #[]) >>= fun _ => letGo (#[] : Array Value).toList.reverse >>= fun _ => Builtin.List.listExtendWith (.ref s.heap.objs.size) (.ref it) .none) _ _ _
  refine wpAny_bind (wpAny_updateSeq hS rfl ?_)
  have hS2 := Heap.get?_update_self (Obj.mapSeq (fun _ => (#[] : Array Value))) hS rfl
  refine wpAny_bind (wpAny_letGo ?_)
  have k1 : ∀ b o, s.heap.get? b = some o → (s.heap.push { cls := .type "list", data := .seq #[] }).get? b = some o := fun b o e => Heap.get?_push_of_some _ e
  have k2 : ∀ b o, s.heap.get? b = some o → ((s.heap.push { cls := .type "list", data := .seq #[] }).update s.heap.objs.size (Obj.mapSeq (fun _ => (#[] : Array Value)))).get? b = some o := fun b o e =>
    (Heap.get?_update_other _ _ (Ne.symm (Nat.ne_of_lt (Heap.lt_size e)))).trans (k1 b o e)
  generalize hH2 : (s.heap.push { cls := .type "list", data := .seq #[] }).update s.heap.objs.size (Obj.mapSeq (fun _ => (#[] : Array Value))) = H2 at hS2 k2
  have hit1 : H2.IsRevIter it l ((items.size : Int) - 1) := hit.at fun o e => k2 _ o e
  have hl1 : H2.IsList l items := by
    obtain ⟨o, ho, r⟩ := hl
    exact ⟨o, k2 _ _ ho, r⟩
  have hT : ({ s with heap := H2 } : Shared).TypeIs (.ref it) "list_reverseiterator" := Heap.IsRevIter.typeIs (s := { s with heap := H2 }) hit1
  have h1 : Builtin.List.listSameRef (.ref s.heap.objs.size) (.ref it) = false := by simp [Builtin.List.listSameRef, hSi]
  unfold Builtin.List.listExtendWith
  refine wpAny_bind (wpAny_typeOf hT ?_)
  rw [if_neg (by rw [h1]; decide)]
  refine wpAny_bind (wpAny_pyIter_revIter (s := { s with heap := H2 }) hit1 ?_)
  refine wpAny_bind (wpAny_holding ?_)
  unfold Builtin.List.listLengthHint
  refine wpAny_bind (wpAny_specialOf hT nolen_lri ?_)
  show wpAny _ A.in1.in1 (specialOf (Value.ref it) (Str.ofString "__length_hint__") >>= _) _ _ _
  refine wpAny_bind (wpAny_specialOf hT hint_lri ?_)
  generalize hid : ("list_reverseiterator.__length_hint__" : String) = id0
  wp_delta
  rw [show splitId id0 = some ("list_reverseiterator", "__length_hint__") from by subst hid; decide +kernel]
  subst hid
  refine wpAny_bind (wpAny_isInstance (b := true) hT (by rw [isSubtype_type]; kernel_rfl) ?_)
  refine wpAny_pure ?_
  rw [if_neg (by decide)]
  have e0 : ((items.size : Nat) : Int) - 1 - ((0 : Nat) : Int) = (items.size : Int) - 1 := by omega
  refine wpAny_pure ⟨plainId_quiet F.plain_extend_loop _, codeAny_extend_loopS (A := A.in1) W hn _ hSf _ items.size 0 _ _ _ rfl (Nat.zero_le _) ⟨Nat.zero_le _, by rw [e0]; exact hit1, hl1⟩ hS2 (ItemsOf.nil _) fun s' acc' c' hm hS' hacc => ?_⟩
  rw [Moved.eq_with hm]
  refine ⟨rfl, hQ s'.heap s'.toks acc' c' (fun b o hb e => hm.heap b o (fun hmem => ?_) (k2 b o e)) hS' hacc⟩
  rcases List.mem_cons.mp hmem with e' | hmem
  · exact absurd (Heap.lt_size e) (by rw [e']; exact Nat.lt_irrefl _)
  · exact hb (List.mem_singleton.mp hmem)
end
section
variable {X : Cx}
/-- list(reversed(a list)) -/
def tListRev (K : PySem.W.Frag) (te : TE) : TE := fun σ H Q => te σ H fun v H1 => ∃ (a : Addr) (xs : List V), v = .ref a ∧ SqL K H1 a xs ∧ ∀ q, H1 q = none → Q (.ref q) (upd H1 q (.lst xs.reverse))
theorem pe_listRev {e : Expr} {te : TE} {p p2 pos pos2 : Pos} (hc : X.calm = true) (hg : Gl X "list") (hm : X.mg "list" = none) (hg2 : Gl X "reversed") (hm2 : X.mg "reversed" = none) (he : PE X e te)
    (hs : starEach [e] X.env = (false, eval e X.env) :: starEach [] X.env := by rfl)
    (hs2 : starEach [.Call (.Name "reversed" p2) [e] [] pos2] X.env = (false, eval (.Call (.Name "reversed" p2) [e] [] pos2) X.env) :: starEach [] X.env := by rfl) :
    PE X (.Call (.Name "list" p) [.Call (.Name "reversed" p2) [e] [] pos2] [] pos) (tListRev X.K te) := by
  refine ⟨fun pins s σ H Q I h => ?_⟩
  refine Call_ (ld_blt I hg hm boot_list (PyProof.Rows.callWith_type1 (args_cons (Call_ (ld_blt I hg2 hm2 PyProof.Rows.boot_reversed (PyProof.Rows.callWith_type1 (args_cons (thn (he.run pins s σ H _ I h) fun u s1 ⟨v, H1, I1, r1, q1⟩ => args_nil ?_) hs) hs rfl))) hs2) hs2 rfl))
  obtain ⟨a, xs, ev, hq, q⟩ := q1
  subst ev
  obtain rfl : u = Value.ref a := r1
  obtain ⟨its, rv, p', hz⟩ := I1.list hq
  refine call_reversed_list p'.isList (args_nil ?_)
  have k0 : ∀ b o, s1.heap.get? b = some o → (s1.heap.push (revObj a ((its.toArray.size : Int) - 1))).get? b = some o := fun b o e => Heap.get?_push_of_some _ e
  have I2 : Inv X pins σ H1 { s1 with heap := s1.heap.push (revObj a ((its.toArray.size : Int) - 1)) } := I1.kept (t' := s1.toks) k0
  obtain ⟨f0, f1, f2, f3, f4, f5⟩ := I1.fpOk (H' := H1) (b := s1.heap.objs.size) (Nat.le_refl _) (I1.hok.fresh (Nat.le_refl _))
  have hl := p'.isList
  obtain ⟨ol, hol, _⟩ := id hl
  have hne : a ≠ s1.heap.objs.size := Nat.ne_of_lt (Heap.lt_size hol)
  have hn : its.toArray.size ≤ sizeLine := by rw [List.size_toArray, ← rv.length]; exact hz
  have hsz : (s1.heap.push (revObj a ((its.toArray.size : Int) - 1))).objs.size = s1.heap.objs.size + 1 := Heap.size_push ..
  refine call_list_rev (s := { s1 with heap := s1.heap.push (revObj a ((its.toArray.size : Int) - 1)) }) (I1.ok.hd hc) ⟨_, Heap.get?_push_size _ rfl, rfl, rfl⟩ (hl.push _) hne hn fun h' tk acc c hk hget hi => ?_
  have hD : H1 (s1.heap.push (revObj a ((its.toArray.size : Int) - 1))).objs.size = none := I1.hok.fresh (by rw [hsz]; omega)
  have J : Inv X pins σ H1 { s1 with heap := h', toks := tk } := I2.turned (t' := tk) (fun b o hb e => hk b o hb e) f0 f1 f3 f4 f5
  have I3 : Inv X pins σ (upd H1 (s1.heap.push (revObj a ((its.toArray.size : Int) - 1))).objs.size (.lst xs.reverse)) { s1 with heap := h', toks := tk } := by
    refine I2.drained (ex := [s1.heap.objs.size]) (Nat.le_refl _) (by rw [List.length_reverse]; exact hz) hget (vals_rev rv hi) (fun b hb => ?_) rfl I1.bare ⟨fun b o e n _ hx => ?_, fun b o e n _ hx => ⟨o.slots, ?_⟩, fun b o e n _ => n, fun b o e hx => ⟨o, ?_⟩, fun _ _ e => e, fun _ _ _ e => e, fun b ps e => ⟨#[], by rw [e]; simp⟩⟩ J.hok hD
    · rw [List.mem_singleton.mp hb]
      exact ⟨f3, f1, f4, f5⟩
    · exact hk b o (fun z => hx (by rw [z]; exact List.mem_singleton.mpr rfl)) e
    · exact hk b o (fun z => hx (by rw [z]; exact List.mem_singleton.mpr rfl)) e
    · exact hk b o (fun z => hx (by rw [z]; exact List.mem_singleton.mpr rfl)) e
  exact ⟨.ref _, _, I3, rfl, q _ hD⟩
/-- list(a text): its signs -/
def rListStr : List V → Hp → VK → Prop := fun xs H Q => ∃ z : Str, xs = [.str z] ∧ z.length ≤ sizeLine ∧ ∀ q, H q = none → Q (.ref q) (upd H q (.lst (z.cps.toList.map fun c => V.str ⟨#[c]⟩)))
theorem call_listStr (hc : X.calm = true) : CallR X (.type "list") rListStr := by
  intro pins s σ H xs us Q I r h
  obtain ⟨z, rfl, hz, q⟩ := h
  cases r with
  | cons r rr =>
    cases rr
    obtain ⟨t, rfl⟩ := r
    refine call_list_str (hn := hz) (I.ok.hd hc) z t fun h' tk acc c hk hget hi => ?_
    have hD : H s.heap.objs.size = none := I.hok.fresh (Nat.le_refl _)
    refine ⟨.ref s.heap.objs.size, _, I.laid (o := .lst (z.cps.toList.map fun c => V.str ⟨#[c]⟩)) (t' := tk) hk (Nat.le_refl _) ⟨by rw [List.length_map, Array.length_toList]; exact hz, acc.toList, c, ?_, by rw [hget]⟩, rfl, q _ hD⟩
    refine vals_of_at ?_ fun j x u e1 e2 => ?_
    · rw [List.length_map]
      have := hi.1
      simp [this]
    · rw [Array.getElem?_toList] at e2
      obtain ⟨c1, t1, e3, e4⟩ := hi.2 j u e2
      rw [List.getElem?_map, Array.getElem?_toList, e3] at e1
      cases e1
      exact ⟨t1, e4⟩
end
end Gx
set_option Elab.async false
set_option linter.all false
set_option maxRecDepth 100000
set_option maxHeartbeats 2000000
namespace Gx
open PySem PySem.Spec PyProof.Rows L2

/-! ### walks of a generator expression -/
section
variable {K : PySem.W.Frag} {g : TG} {tt : TT} {te : TE} {σ' : L2.St} {q : Bool} {Q : VK} {H : Hp}
def gxTurn (g : TG) (tt : TT) (te : TE) (σ' : L2.St) (q : Bool) (Q : VK) (x : V) (H : Hp) (N : Hp → Prop) : Prop := g x σ' H fun σ2 H2 => Wk σ' σ2 ∧ tt σ2 H2 fun b H3 =>
    if b = true then te σ2 H3 fun y H4 => ∃ c, y = .bl c ∧ (if c = q then Q (.bl q) H4 else N H4) else N H3
theorem gx_by {J : It} {n : Nat} (Pv : Nat → Hp → Prop) (h0 : Pv 0 H) (hgo : ∀ i H, i < n → Pv i H → J.go i H) (hst : ∀ H, Pv n H → J.stop n H)
    (hs : ∀ i x H H', i < n → Pv i H → J.yld i H x H' → gxTurn g tt te σ' q Q x H' (Pv (i + 1))) (hd : ∀ H, Pv n H → Q (.bl (!q)) H) :
    ∃ (W : Nat → Nat → Hp → Prop) (m : Nat), W 0 m H ∧ gxW J g tt te σ' q Q W := by
  refine ⟨fun i m H => m = n - i ∧ i ≤ n ∧ Pv i H, n, ⟨by omega, Nat.zero_le _, h0⟩, ?_⟩
  rintro i m H ⟨rfl, hi, p⟩
  by_cases hlt : i < n
  · refine .inr ⟨hgo i H hlt p, Pv (i + 1), fun H' p' => ⟨n - (i + 1), by omega, rfl, by omega, p'⟩, fun x H' y => ?_⟩
    exact hs i x H H' hlt p y
  · have e : i = n := by omega
    subst e
    exact .inl ⟨hst H p, hd H p⟩
/-- over a text -/
theorem gx_str {x : Str} (Pv : Nat → Hp → Prop) (h0 : Pv 0 H) (hs : ∀ (i c : Nat) H, x.cps[i]? = some c → Pv i H → gxTurn g tt te σ' q Q (.str ⟨#[c]⟩) H (Pv (i + 1))) (hd : ∀ H, Pv x.cps.size H → Q (.bl (!q)) H) :
    ∃ (W : Nat → Nat → Hp → Prop) (m : Nat), W 0 m H ∧ gxW (Its x) g tt te σ' q Q W :=
  gx_by (n := x.cps.size) Pv h0 (fun i H h _ => h) (fun H _ => Nat.le_refl _) (fun i v H H' h p ⟨e1, c, e2, e3⟩ => by subst e1 e3; exact hs i c _ e2 p) hd
/-- over a list that stays -/
theorem gx_list {a : Addr} {xs : List V} (Pv : Nat → Hp → Prop) (h0 : Pv 0 H) (hl : ∀ i H, Pv i H → SqL K H a xs) (hs : ∀ (i : Nat) v H, xs[i]? = some v → Pv i H → gxTurn g tt te σ' q Q v H (Pv (i + 1))) (hd : ∀ H, Pv xs.length H → Q (.bl (!q)) H) :
    ∃ (W : Nat → Nat → Hp → Prop) (m : Nat), W 0 m H ∧ gxW (Itl K a) g tt te σ' q Q W :=
  gx_by (n := xs.length) Pv h0 (fun i H h p => ⟨xs, xs[i], hl i H p, by simp [h]⟩) (fun H p => ⟨xs, hl _ H p, Nat.le_refl _⟩) (fun i v H H' h p ⟨e1, e2⟩ => by subst e1; exact hs i v _ (e2 xs (hl i _ p)) p) hd
theorem gx_tup {a : Addr} {xs : List V} (Pv : Nat → Hp → Prop) (h0 : Pv 0 H) (hl : ∀ i H, Pv i H → SqT K H a xs) (hs : ∀ (i : Nat) v H, xs[i]? = some v → Pv i H → gxTurn g tt te σ' q Q v H (Pv (i + 1))) (hd : ∀ H, Pv xs.length H → Q (.bl (!q)) H) :
    ∃ (W : Nat → Nat → Hp → Prop) (m : Nat), W 0 m H ∧ gxW (Itt K a) g tt te σ' q Q W :=
  gx_by (n := xs.length) Pv h0 (fun i H h p => ⟨xs, xs[i], hl i H p, by simp [h]⟩) (fun H p => ⟨xs, hl _ H p, Nat.le_refl _⟩) (fun i v H H' h p ⟨e1, e2⟩ => by subst e1; exact hs i v _ (e2 xs (hl i _ p)) p) hd
theorem gx_rng {lo : Int} {n : Nat} (Pv : Nat → Hp → Prop) (h0 : Pv 0 H) (hs : ∀ (i : Nat) H, i < n → Pv i H → gxTurn g tt te σ' q Q (.int (lo + i)) H (Pv (i + 1))) (hd : ∀ H, Pv n H → Q (.bl (!q)) H) :
    ∃ (W : Nat → Nat → Hp → Prop) (m : Nat), W 0 m H ∧ gxW (Itr lo n) g tt te σ' q Q W :=
  gx_by (n := n) Pv h0 (fun i H h _ => h) (fun H _ => Nat.le_refl _) (fun i v H H' h p ⟨e1, e3⟩ => by subst e1 e3; exact hs i _ h p) hd
end

/-! ### a for over a text; a comprehension over a text -/
theorem for_str {x : Str} {g : TG} {tb : TS} {D : Ends} {σ : L2.St} {H : Hp} (Pv : Nat → L2.St → Hp → Prop) (h0 : Pv 0 σ H)
    (hs : ∀ (i c : Nat) σ H, x.cps[i]? = some c → Pv i σ H → g (.str ⟨#[c]⟩) σ H fun σ2 H2 => tb { D with nx := Pv (i + 1), ct := Pv (i + 1), bk := D.nx } σ2 H2) (hd : ∀ σ H, Pv x.cps.size σ H → D.nx σ H) :
    ∃ W : Nat → Nat → L2.St → Hp → Prop, (∃ m, W 0 m σ H) ∧ ∀ i m σ H, W i m σ H →
      ((Its x).stop i H ∧ D.nx σ H) ∨ ((Its x).go i H ∧ ∃ N : L2.St → Hp → Prop, (∀ σ' H', N σ' H' → ∃ m', m' < m ∧ W (i + 1) m' σ' H') ∧ ∀ v H', (Its x).yld i H v H' → g v σ H' fun σ2 H2 => tb { D with nx := N, ct := N, bk := D.nx } σ2 H2) := by
  refine ⟨fun i m σ H => m = x.cps.size - i ∧ i ≤ x.cps.size ∧ Pv i σ H, ⟨x.cps.size, by omega, Nat.zero_le _, h0⟩, ?_⟩
  rintro i m σ H ⟨rfl, hi, p⟩
  by_cases hlt : i < x.cps.size
  · refine .inr ⟨hlt, Pv (i + 1), fun σ' H' p' => ⟨x.cps.size - (i + 1), by omega, rfl, hlt, p'⟩, fun v H' ⟨e1, c, e2, e3⟩ => ?_⟩
    subst e1 e3
    exact hs i c σ _ e2 p
  · have e : i = x.cps.size := by omega
    subst e
    exact .inl ⟨Nat.le_refl _, hd σ H p⟩
theorem lc_str {x : Str} {g : TG} {tt : TT} {te : TE} {vs : List Nat} {σ : L2.St} {H1 : Hp} {D : Addr} {Qd : Hp → Prop} (Pv : Nat → Hp → Prop) (h0 : Pv 0 (upd H1 D (.lst [])))
    (hs : ∀ (i c : Nat) H, x.cps[i]? = some c → Pv i H → g (.str ⟨#[c]⟩) (wipe σ vs) H fun σ2 H2 => wipe σ2 vs = wipe σ vs ∧ tt σ2 H2 fun b H3 =>
      if b = true then te σ2 H3 fun y H4 => ∃ acc, H4 D = some (.lst acc) ∧ acc.length < sizeLine ∧ Pv (i + 1) (upd H4 D (.lst (acc ++ [y]))) else Pv (i + 1) H3) (hd : ∀ H, Pv x.cps.size H → Qd H) :
    ∃ W : Nat → Nat → Hp → Prop, (∃ m, W 0 m (upd H1 D (.lst []))) ∧ ∀ i m H, W i m H →
      ((Its x).stop i H ∧ Qd H) ∨ ((Its x).go i H ∧ ∃ Nx : Hp → Prop, (∀ H', Nx H' → ∃ m', m' < m ∧ W (i + 1) m' H') ∧ ∀ v H', (Its x).yld i H v H' → g v (wipe σ vs) H' fun σ2 H2 => wipe σ2 vs = wipe σ vs ∧ tt σ2 H2 fun b H3 =>
        if b = true then te σ2 H3 fun y H4 => ∃ acc, H4 D = some (.lst acc) ∧ acc.length < sizeLine ∧ Nx (upd H4 D (.lst (acc ++ [y]))) else Nx H3) := by
  refine ⟨fun i m H => m = x.cps.size - i ∧ i ≤ x.cps.size ∧ Pv i H, ⟨x.cps.size, by omega, Nat.zero_le _, h0⟩, ?_⟩
  rintro i m H ⟨rfl, hi, p⟩
  by_cases hlt : i < x.cps.size
  · refine .inr ⟨hlt, Pv (i + 1), fun H' p' => ⟨x.cps.size - (i + 1), by omega, rfl, hlt, p'⟩, fun v H' ⟨e1, c, e2, e3⟩ => ?_⟩
    subst e1 e3
    exact hs i c _ e2 p
  · have e : i = x.cps.size := by omega
    subst e
    exact .inl ⟨Nat.le_refl _, hd H p⟩

/-! ### what stays -/
/-- tables stay tables; all else that was tracked stays -/
structure Xt (H H' : Hp) : Prop where
  keep : ∀ b o, H b = some o → (∀ ps, o ≠ .tbl ps) → H' b = some o
  tab : ∀ P ps, H P = some (.tbl ps) → ∃ ps', H' P = some (.tbl ps') ∧ (TriplesOk ps.toList → TriplesOk ps'.toList)
theorem Xt.refl (H : Hp) : Xt H H := ⟨fun _ _ h _ => h, fun _ ps h => ⟨ps, h, id⟩⟩
theorem Xt.trans {H H1 H2 : Hp} (a : Xt H H1) (b : Xt H1 H2) : Xt H H2 := ⟨fun c o h n => b.keep c o (a.keep c o h n) n, fun P ps h => by
  obtain ⟨p1, e1, f1⟩ := a.tab P ps h
  obtain ⟨p2, e2, f2⟩ := b.tab P p1 e1
  exact ⟨p2, e2, fun z => f2 (f1 z)⟩⟩
theorem Xt.tabG {H H' : Hp} (x : Xt H H') {P : Addr} (h : GxR.TabG H P) : GxR.TabG H' P := by
  obtain ⟨ps, e, t⟩ := h
  obtain ⟨ps', e', f⟩ := x.tab P ps e
  exact ⟨ps', e', f t⟩
theorem Xt.new {H : Hp} {p : Addr} {o : HO} (h : H p = none) : Xt H (upd H p o) := ⟨fun b u e _ => by rw [upd_ne (ne_of_none e h)]; exact e, fun P ps e => ⟨ps, by rw [upd_ne (ne_of_none e h)]; exact e, id⟩⟩
/-- an object that H does not know may change -/
theorem Xt.mut {H H' : Hp} {p : Addr} {o : HO} (e : Xt H H') (h : H p = none) : Xt H (upd H' p o) := ⟨fun a u ha n => by
  rw [upd_ne (ne_of_none ha h)]
  exact e.keep a u ha n, fun P ps hP => by
  rw [upd_ne (ne_of_none hP h)]
  exact e.tab P ps hP⟩
theorem Xt.tabbed {H H' : Hp} {P : Addr} (hP : GxR.TabG H P) (t : GxR.Tabbed P H H') : Xt H H' := by
  refine ⟨fun b o e n => ?_, fun Q ps hQ => ?_⟩
  · by_cases hb : b = P
    · subst hb
      obtain ⟨ps, e2, _⟩ := hP
      rw [e] at e2; exact absurd (Option.some.inj e2) (n ps)
    · rw [t.2 b hb]
      exact e
  · by_cases h : Q = P
    · subst h
      obtain ⟨ps', e', t'⟩ := t.1
      exact ⟨ps', e', fun _ => t'⟩
    · exact ⟨ps, by rw [t.2 Q h]; exact hQ, id⟩
theorem Xt.lst {H H' : Hp} (x : Xt H H') {a : Addr} {xs : List V} (h : H a = some (.lst xs)) : H' a = some (.lst xs) := x.keep a _ h fun _ => nofun
theorem Xt.tup {H H' : Hp} (x : Xt H H') {a : Addr} {xs : List V} (h : H a = some (.tup xs)) : H' a = some (.tup xs) := x.keep a _ h fun _ => nofun
theorem Xt.free {H H' : Hp} (x : Xt H H') {a : Addr} (h : H' a = none) : H a = none := by
  cases q : H a with
  | none => rfl
  | some o =>
    by_cases ht : ∃ ps, o = .tbl ps
    · obtain ⟨ps, rfl⟩ := ht
      obtain ⟨ps', e', _⟩ := x.tab a ps q
      rw [h] at e'; cases e'
    · rw [x.keep a o q (fun ps e => ht ⟨ps, e⟩)] at h; cases h
theorem Xt.rd {H H' : Hp} (x : Xt H H') {a : Addr} {u : HO} (hu : ∀ ps, u ≠ .tbl ps) (h : Rd H a u) : Rd H' a u := by
  rcases h with h | ⟨o, h⟩
  · exact .inl (x.keep a _ h hu)
  · exact .inr ⟨o, x.keep a _ h fun _ => nofun⟩
theorem Xt.sqL {K : PySem.W.Frag} {H H' : Hp} (x : Xt H H') {a : Addr} {xs : List V} (h : SqL K H a xs) : SqL K H' a xs := by
  rcases h with h | h
  · exact .inl (x.rd (fun _ => nofun) h)
  · exact .inr h
theorem Xt.sqT {K : PySem.W.Frag} {H H' : Hp} (x : Xt H H') {a : Addr} {xs : List V} (h : SqT K H a xs) : SqT K H' a xs := by
  rcases h with h | h
  · exact .inl (x.rd (fun _ => nofun) h)
  · exact .inr h

/-! ### a def whose code object is known -/
structure FunT (K : PySem.W.Frag) (x : Str) (st : Stmt) (f : Addr) (fd : FuncData) (c : Addr) : Prop where
  ex : ∃ (oc : Value) (od : Option Addr) (kV doc pm : Value) (an : Option Addr) (ct : Value) (osl : Array (Option Value)),
    fd = PySem.W.fnOf x x (defArgs st) (defBody st) (defScope st) .none kV doc pm an (.ref c) ct ∧ K.lookup f = some ⟨oc, od, .func fd, osl⟩ ∧ PySem.W.codeIn K (.ref c) x = true
  kp : PySem.W.keepIn K (.ref f) = true
section
variable {P : Program} {w : World} {K : PySem.W.Frag} {mg : Str → Option Value} {base : Heap}
theorem FunT.toFun {x : Str} {st : Stmt} {f c : Addr} {fd : FuncData} (F : FunT K x st f fd c) : Fun K x x st f fd := by
  obtain ⟨oc, od, kV, doc, pm, an, ct, osl, e, lk, hcd⟩ := F.ex
  exact ⟨⟨oc, od, kV, doc, pm, an, _, ct, osl, e, lk, hcd⟩, F.kp⟩
/-- a def that lets no exception out, by its body; its code object is c -/
theorem FunT.ok {x : Str} {st : Stmt} {f c : Addr} {fd : FuncData} {N ps : List Str} {k : Nat} {sp : Sp} (F : FunT K x st f fd c) (S : FnScope N ps (defScope st)) (len : ∀ vs H Q E, sp vs H Q E → vs.length = ps.length)
    (hbody : ∀ (A : Around) (outer : List Env) (s : Shared) (H : Hp) (vs : List V) (Q : VK) (E : XK), Room k (A.deeper (envOfC x (defScope st) s.heap.objs.size f (.ref c))) → sp vs H Q E →
      ∃ t, PSs (cxOf CX0 P w K mg base N x (defScope st) f (.ref c) A outer s H E).nox (defBody st) t ∧ t { nx := fun _ H' => Q .non H', rt := Q } (start N vs) H) : FnOk P w K mg base CX0 (k + 1) f fd ps sp := by
  obtain ⟨oc, od, kV, doc, pm, an, ct, osl, rfl, lk, hcd⟩ := F.ex
  refine fn_of lk hcd S len fun A outer s H vs Q E hr hsp => ?_
  obtain ⟨t, h, q⟩ := hbody A outer s H vs Q E hr hsp
  exact ⟨t, h.nox, q⟩
end
end Gx
namespace Gx
open PySem PySem.Spec PyProof.Rows L2
/-- a module's constant -/
theorem pe_gcon {X : Cx} {x : Str} {v : V} {pos : Pos} (hg : Gl X x) (h : ∃ u, X.mg x = some u ∧ RelV v u) (hd : (x == ("__debug__" : Str)) = false := by decide) : PE X (.Name x pos) (tC v) := by
  obtain ⟨u, h1, h2⟩ := h
  exact pe_glob hg h1 h2 hd
end Gx
namespace Gx
open PySem PySem.Spec PyProof.Rows L2
theorem ndw {own caps : List Str} (h : (own ++ caps).Nodup) : (own ++ caps).Nodup := h
theorem wk_set {σ' : L2.St} {j : Nat} {x : V} (h : σ'[j]? = some none) : Wk σ' (σ'.set j (some x)) := by
  refine ⟨(List.length_set ..).symm, fun i v e => ?_⟩
  by_cases hj : j = i
  · subst hj; rw [h] at e; cases e
  · rw [List.getElem?_set_ne hj]; exact e
end Gx
set_option Elab.async false
set_option linter.all false
set_option maxRecDepth 100000
set_option maxHeartbeats 2000000
namespace Gx
open PySem PySem.Spec PyProof.Rows L2
/-! ### all and any, by what a turn is worth -/
theorem take_all_succ {α : Type} {l : List α} {p : α → Bool} {i : Nat} {c : α} (h : l[i]? = some c) : (l.take (i + 1)).all p = ((l.take i).all p && p c) := by
  rw [List.take_add_one, h, List.all_append]
  simp
theorem all_false_at {α : Type} {l : List α} {p : α → Bool} {i : Nat} {c : α} (h : l[i]? = some c) (hc : p c = false) : l.all p = false := by
  rw [List.all_eq_false]
  exact ⟨c, List.mem_of_getElem? h, by simp [hc]⟩
theorem take_any_succ {α : Type} {l : List α} {p : α → Bool} {i : Nat} {c : α} (h : l[i]? = some c) : (l.take (i + 1)).any p = ((l.take i).any p || p c) := by
  rw [List.take_add_one, h, List.any_append]
  simp
theorem any_true_at {α : Type} {l : List α} {p : α → Bool} {i : Nat} {c : α} (h : l[i]? = some c) (hc : p c = true) : l.any p = true := by
  rw [List.any_eq_true]
  exact ⟨c, List.mem_of_getElem? h, hc⟩
section
variable {K : PySem.W.Frag} {g : TG} {tt : TT} {te : TE} {σ' : L2.St} {Q : VK} {H : Hp}
theorem gx_all_str {x : Str} (p : Nat → Bool) (hs : ∀ (c : Nat) H' N, Xt H H' → (∀ H2, Xt H H2 → if p c = false then Q (.bl false) H2 else N H2) → gxTurn g tt te σ' false Q (.str ⟨#[c]⟩) H' N) (h : ∀ H', Xt H H' → Q (.bl (x.cps.toList.all p)) H') :
    ∃ (W : Nat → Nat → Hp → Prop) (m : Nat), W 0 m H ∧ gxW (Its x) g tt te σ' false Q W := by
  refine gx_str (fun i H' => Xt H H' ∧ (x.cps.toList.take i).all p = true) ⟨Xt.refl H, rfl⟩ (fun i c H' hc hp => ?_) (fun H' hp => ?_)
  · obtain ⟨xt, hp⟩ := hp
    have hc' : x.cps.toList[i]? = some c := by rw [Array.getElem?_toList]; exact hc
    refine hs c H' _ xt fun H2 x2 => ite2 (fun e => ?_) (fun e => ⟨x2, ?_⟩)
    · have q := h H2 x2
      rw [all_false_at hc' e] at q
      exact q
    · rw [take_all_succ hc', hp, eq_true_of_ne_false e]
      rfl
  · obtain ⟨xt, hp⟩ := hp
    rw [show x.cps.size = x.cps.toList.length from Array.length_toList.symm, List.take_length] at hp
    have q := h H' xt
    rw [hp] at q
    exact q
theorem gx_any_str {x : Str} (p : Nat → Bool) (hs : ∀ (c : Nat) H' N, Xt H H' → (∀ H2, Xt H H2 → if p c = true then Q (.bl true) H2 else N H2) → gxTurn g tt te σ' true Q (.str ⟨#[c]⟩) H' N) (h : ∀ H', Xt H H' → Q (.bl (x.cps.toList.any p)) H') :
    ∃ (W : Nat → Nat → Hp → Prop) (m : Nat), W 0 m H ∧ gxW (Its x) g tt te σ' true Q W := by
  refine gx_str (fun i H' => Xt H H' ∧ (x.cps.toList.take i).any p = false) ⟨Xt.refl H, rfl⟩ (fun i c H' hc hp => ?_) (fun H' hp => ?_)
  · obtain ⟨xt, hp⟩ := hp
    have hc' : x.cps.toList[i]? = some c := by rw [Array.getElem?_toList]; exact hc
    refine hs c H' _ xt fun H2 x2 => ite2 (fun e => ?_) (fun e => ⟨x2, ?_⟩)
    · have q := h H2 x2
      rw [any_true_at hc' e] at q
      exact q
    · rw [take_any_succ hc', hp, eq_false_of_ne_true e]
      rfl
  · obtain ⟨xt, hp⟩ := hp
    rw [show x.cps.size = x.cps.toList.length from Array.length_toList.symm, List.take_length] at hp
    have q := h H' xt
    rw [hp] at q
    exact q
theorem gx_all_list {a : Addr} {xs : List V} (p : V → Bool) (hl : SqL K H a xs) (hs : ∀ v ∈ xs, ∀ H' N, Xt H H' → (∀ H2, Xt H H2 → if p v = false then Q (.bl false) H2 else N H2) → gxTurn g tt te σ' false Q v H' N) (h : ∀ H', Xt H H' → Q (.bl (xs.all p)) H') :
    ∃ (W : Nat → Nat → Hp → Prop) (m : Nat), W 0 m H ∧ gxW (Itl K a) g tt te σ' false Q W := by
  refine gx_list (xs := xs) (fun i H' => Xt H H' ∧ (xs.take i).all p = true) ⟨Xt.refl H, rfl⟩ (fun i H' hp => hp.1.sqL hl) (fun i c H' hc hp => ?_) (fun H' hp => ?_)
  · obtain ⟨xt, hp⟩ := hp
    refine hs c (List.mem_of_getElem? hc) H' _ xt fun H2 x2 => ite2 (fun e => ?_) (fun e => ⟨x2, ?_⟩)
    · have q := h H2 x2
      rw [all_false_at hc e] at q
      exact q
    · rw [take_all_succ hc, hp, eq_true_of_ne_false e]
      rfl
  · obtain ⟨xt, hp⟩ := hp
    rw [List.take_length] at hp
    have q := h H' xt
    rw [hp] at q
    exact q
theorem gx_any_list {a : Addr} {xs : List V} (p : V → Bool) (hl : SqL K H a xs) (hs : ∀ v ∈ xs, ∀ H' N, Xt H H' → (∀ H2, Xt H H2 → if p v = true then Q (.bl true) H2 else N H2) → gxTurn g tt te σ' true Q v H' N) (h : ∀ H', Xt H H' → Q (.bl (xs.any p)) H') :
    ∃ (W : Nat → Nat → Hp → Prop) (m : Nat), W 0 m H ∧ gxW (Itl K a) g tt te σ' true Q W := by
  refine gx_list (xs := xs) (fun i H' => Xt H H' ∧ (xs.take i).any p = false) ⟨Xt.refl H, rfl⟩ (fun i H' hp => hp.1.sqL hl) (fun i c H' hc hp => ?_) (fun H' hp => ?_)
  · obtain ⟨xt, hp⟩ := hp
    refine hs c (List.mem_of_getElem? hc) H' _ xt fun H2 x2 => ite2 (fun e => ?_) (fun e => ⟨x2, ?_⟩)
    · have q := h H2 x2
      rw [any_true_at hc e] at q
      exact q
    · rw [take_any_succ hc, hp, eq_false_of_ne_true e]
      rfl
  · obtain ⟨xt, hp⟩ := hp
    rw [List.take_length] at hp
    have q := h H' xt
    rw [hp] at q
    exact q
theorem gx_all_tup {a : Addr} {xs : List V} (p : V → Bool) (hl : SqT K H a xs) (hs : ∀ v ∈ xs, ∀ H' N, Xt H H' → (∀ H2, Xt H H2 → if p v = false then Q (.bl false) H2 else N H2) → gxTurn g tt te σ' false Q v H' N) (h : ∀ H', Xt H H' → Q (.bl (xs.all p)) H') :
    ∃ (W : Nat → Nat → Hp → Prop) (m : Nat), W 0 m H ∧ gxW (Itt K a) g tt te σ' false Q W := by
  refine gx_tup (xs := xs) (fun i H' => Xt H H' ∧ (xs.take i).all p = true) ⟨Xt.refl H, rfl⟩ (fun i H' hp => hp.1.sqT hl) (fun i c H' hc hp => ?_) (fun H' hp => ?_)
  · obtain ⟨xt, hp⟩ := hp
    refine hs c (List.mem_of_getElem? hc) H' _ xt fun H2 x2 => ite2 (fun e => ?_) (fun e => ⟨x2, ?_⟩)
    · have q := h H2 x2
      rw [all_false_at hc e] at q
      exact q
    · rw [take_all_succ hc, hp, eq_true_of_ne_false e]
      rfl
  · obtain ⟨xt, hp⟩ := hp
    rw [List.take_length] at hp
    have q := h H' xt
    rw [hp] at q
    exact q
theorem gx_any_tup {a : Addr} {xs : List V} (p : V → Bool) (hl : SqT K H a xs) (hs : ∀ v ∈ xs, ∀ H' N, Xt H H' → (∀ H2, Xt H H2 → if p v = true then Q (.bl true) H2 else N H2) → gxTurn g tt te σ' true Q v H' N) (h : ∀ H', Xt H H' → Q (.bl (xs.any p)) H') :
    ∃ (W : Nat → Nat → Hp → Prop) (m : Nat), W 0 m H ∧ gxW (Itt K a) g tt te σ' true Q W := by
  refine gx_tup (xs := xs) (fun i H' => Xt H H' ∧ (xs.take i).any p = false) ⟨Xt.refl H, rfl⟩ (fun i H' hp => hp.1.sqT hl) (fun i c H' hc hp => ?_) (fun H' hp => ?_)
  · obtain ⟨xt, hp⟩ := hp
    refine hs c (List.mem_of_getElem? hc) H' _ xt fun H2 x2 => ite2 (fun e => ?_) (fun e => ⟨x2, ?_⟩)
    · have q := h H2 x2
      rw [any_true_at hc e] at q
      exact q
    · rw [take_any_succ hc, hp, eq_false_of_ne_true e]
      rfl
  · obtain ⟨xt, hp⟩ := hp
    rw [List.take_length] at hp
    have q := h H' xt
    rw [hp] at q
    exact q
end
/-! ### comprehensions that filter and map, nothing else changed -/
section
variable {K : PySem.W.Frag} {g : TG} {tt : TT} {te : TE}
theorem lcf_str {vs : List Nat} {σ : L2.St} {H1 : Hp} {D : Addr} {Qd : Hp → Prop} {x : Str} (p : Nat → Bool) (f : Nat → V) (hD : H1 D = none) (hz : x.cps.toList.length ≤ sizeLine)
    (hs : ∀ v ∈ x.cps.toList, ∀ H' (Y : V → Hp → Prop) (N : Hp → Prop), Xt H1 H' → (∀ H2, Xt H' H2 → p v = true → Y (f v) H2) → (∀ H2, Xt H' H2 → p v = false → N H2) →
      g (.str ⟨#[v]⟩) (wipe σ vs) H' fun σ2 H2 => wipe σ2 vs = wipe σ vs ∧ tt σ2 H2 fun b H3 => if b = true then te σ2 H3 Y else N H3)
    (hd : ∀ H', Xt H1 H' → H' D = some (.lst ((x.cps.toList.filter p).map f)) → Qd H') :
    ∃ W : Nat → Nat → Hp → Prop, (∃ m, W 0 m (upd H1 D (.lst []))) ∧ ∀ i m H, W i m H →
      ((Its x).stop i H ∧ Qd H) ∨ ((Its x).go i H ∧ ∃ Nx : Hp → Prop, (∀ H', Nx H' → ∃ m', m' < m ∧ W (i + 1) m' H') ∧ ∀ v H', (Its x).yld i H v H' → g v (wipe σ vs) H' fun σ2 H2 => wipe σ2 vs = wipe σ vs ∧ tt σ2 H2 fun b H3 =>
        if b = true then te σ2 H3 fun y H4 => ∃ acc, H4 D = some (.lst acc) ∧ acc.length < sizeLine ∧ Nx (upd H4 D (.lst (acc ++ [y]))) else Nx H3) := by
  refine lc_str (fun i H' => Xt H1 H' ∧ H' D = some (.lst ((((x.cps.toList).take i).filter p).map f))) ⟨Xt.new hD, upd_same ..⟩ (fun i c H' hc hp => ?_) (fun H' hp => hd H' hp.1 ?_)
  · obtain ⟨xt, hp⟩ := hp
    have hc' : (x.cps.toList)[i]? = some c := by rw [Array.getElem?_toList]; exact hc
    have hi : i < (x.cps.toList).length := (List.getElem?_eq_some_iff.mp hc').1
    refine hs c (List.mem_of_getElem? hc') H' _ _ xt (fun H2 x2 e => ⟨_, x2.lst hp, ?_, (xt.trans x2).mut hD, ?_⟩) (fun H2 x2 e => ⟨xt.trans x2, ?_⟩)
    · rw [List.length_map]
      exact Nat.lt_of_le_of_lt (Nat.le_trans (List.length_filter_le ..) (by rw [List.length_take]; exact Nat.min_le_left ..)) (Nat.lt_of_lt_of_le hi hz)
    · rw [upd_same, List.take_add_one, hc', List.filter_append, List.map_append]
      show _ = some (HO.lst (_ ++ ([c].filter p).map f))
      rw [List.filter_cons, if_pos e]
      rfl
    · rw [x2.lst hp, List.take_add_one, hc', List.filter_append, List.map_append]
      show _ = some (HO.lst (_ ++ ([c].filter p).map f))
      rw [List.filter_cons, if_neg (by rw [e]; exact Bool.false_ne_true)]
      show _ = some (HO.lst (_ ++ []))
      rw [List.append_nil]
  · have h2 := hp.2
    rw [show x.cps.size = x.cps.toList.length from Array.length_toList.symm, List.take_length] at h2
    exact h2
theorem lcf_list {vs : List Nat} {σ : L2.St} {H1 : Hp} {D : Addr} {Qd : Hp → Prop} {a : Addr} {xs : List V} (p : V → Bool) (f : V → V) (hl : SqL K H1 a xs) (hD : H1 D = none) (hz : xs.length ≤ sizeLine)
    (hs : ∀ v ∈ xs, ∀ H' (Y : V → Hp → Prop) (N : Hp → Prop), Xt H1 H' → (∀ H2, Xt H' H2 → p v = true → Y (f v) H2) → (∀ H2, Xt H' H2 → p v = false → N H2) →
      g v (wipe σ vs) H' fun σ2 H2 => wipe σ2 vs = wipe σ vs ∧ tt σ2 H2 fun b H3 => if b = true then te σ2 H3 Y else N H3)
    (hd : ∀ H', Xt H1 H' → H' D = some (.lst ((xs.filter p).map f)) → Qd H') :
    ∃ W : Nat → Nat → Hp → Prop, (∃ m, W 0 m (upd H1 D (.lst []))) ∧ ∀ i m H, W i m H →
      ((Itl K a).stop i H ∧ Qd H) ∨ ((Itl K a).go i H ∧ ∃ Nx : Hp → Prop, (∀ H', Nx H' → ∃ m', m' < m ∧ W (i + 1) m' H') ∧ ∀ v H', (Itl K a).yld i H v H' → g v (wipe σ vs) H' fun σ2 H2 => wipe σ2 vs = wipe σ vs ∧ tt σ2 H2 fun b H3 =>
        if b = true then te σ2 H3 fun y H4 => ∃ acc, H4 D = some (.lst acc) ∧ acc.length < sizeLine ∧ Nx (upd H4 D (.lst (acc ++ [y]))) else Nx H3) := by
  refine lc_list (fun i H' => Xt H1 H' ∧ H' D = some (.lst ((((xs).take i).filter p).map f))) ⟨Xt.new hD, upd_same ..⟩ (fun i H' _ hp => hp.1.sqL hl) (fun i c H' hc hp => ?_) (fun H' hp => hd H' hp.1 ?_)
  · obtain ⟨xt, hp⟩ := hp
    have hc' : (xs)[i]? = some c := hc
    have hi : i < (xs).length := (List.getElem?_eq_some_iff.mp hc').1
    refine hs c (List.mem_of_getElem? hc') H' _ _ xt (fun H2 x2 e => ⟨_, x2.lst hp, ?_, (xt.trans x2).mut hD, ?_⟩) (fun H2 x2 e => ⟨xt.trans x2, ?_⟩)
    · rw [List.length_map]
      exact Nat.lt_of_le_of_lt (Nat.le_trans (List.length_filter_le ..) (by rw [List.length_take]; exact Nat.min_le_left ..)) (Nat.lt_of_lt_of_le hi hz)
    · rw [upd_same, List.take_add_one, hc', List.filter_append, List.map_append]
      show _ = some (HO.lst (_ ++ ([c].filter p).map f))
      rw [List.filter_cons, if_pos e]
      rfl
    · rw [x2.lst hp, List.take_add_one, hc', List.filter_append, List.map_append]
      show _ = some (HO.lst (_ ++ ([c].filter p).map f))
      rw [List.filter_cons, if_neg (by rw [e]; exact Bool.false_ne_true)]
      show _ = some (HO.lst (_ ++ []))
      rw [List.append_nil]
  · have h2 := hp.2
    rw [List.take_length] at h2
    exact h2
theorem lcf_tup {vs : List Nat} {σ : L2.St} {H1 : Hp} {D : Addr} {Qd : Hp → Prop} {a : Addr} {xs : List V} (p : V → Bool) (f : V → V) (hl : SqT K H1 a xs) (hD : H1 D = none) (hz : xs.length ≤ sizeLine)
    (hs : ∀ v ∈ xs, ∀ H' (Y : V → Hp → Prop) (N : Hp → Prop), Xt H1 H' → (∀ H2, Xt H' H2 → p v = true → Y (f v) H2) → (∀ H2, Xt H' H2 → p v = false → N H2) →
      g v (wipe σ vs) H' fun σ2 H2 => wipe σ2 vs = wipe σ vs ∧ tt σ2 H2 fun b H3 => if b = true then te σ2 H3 Y else N H3)
    (hd : ∀ H', Xt H1 H' → H' D = some (.lst ((xs.filter p).map f)) → Qd H') :
    ∃ W : Nat → Nat → Hp → Prop, (∃ m, W 0 m (upd H1 D (.lst []))) ∧ ∀ i m H, W i m H →
      ((Itt K a).stop i H ∧ Qd H) ∨ ((Itt K a).go i H ∧ ∃ Nx : Hp → Prop, (∀ H', Nx H' → ∃ m', m' < m ∧ W (i + 1) m' H') ∧ ∀ v H', (Itt K a).yld i H v H' → g v (wipe σ vs) H' fun σ2 H2 => wipe σ2 vs = wipe σ vs ∧ tt σ2 H2 fun b H3 =>
        if b = true then te σ2 H3 fun y H4 => ∃ acc, H4 D = some (.lst acc) ∧ acc.length < sizeLine ∧ Nx (upd H4 D (.lst (acc ++ [y]))) else Nx H3) := by
  refine lc_tup (fun i H' => Xt H1 H' ∧ H' D = some (.lst ((((xs).take i).filter p).map f))) ⟨Xt.new hD, upd_same ..⟩ (fun i H' _ hp => hp.1.sqT hl) (fun i c H' hc hp => ?_) (fun H' hp => hd H' hp.1 ?_)
  · obtain ⟨xt, hp⟩ := hp
    have hc' : (xs)[i]? = some c := hc
    have hi : i < (xs).length := (List.getElem?_eq_some_iff.mp hc').1
    refine hs c (List.mem_of_getElem? hc') H' _ _ xt (fun H2 x2 e => ⟨_, x2.lst hp, ?_, (xt.trans x2).mut hD, ?_⟩) (fun H2 x2 e => ⟨xt.trans x2, ?_⟩)
    · rw [List.length_map]
      exact Nat.lt_of_le_of_lt (Nat.le_trans (List.length_filter_le ..) (by rw [List.length_take]; exact Nat.min_le_left ..)) (Nat.lt_of_lt_of_le hi hz)
    · rw [upd_same, List.take_add_one, hc', List.filter_append, List.map_append]
      show _ = some (HO.lst (_ ++ ([c].filter p).map f))
      rw [List.filter_cons, if_pos e]
      rfl
    · rw [x2.lst hp, List.take_add_one, hc', List.filter_append, List.map_append]
      show _ = some (HO.lst (_ ++ ([c].filter p).map f))
      rw [List.filter_cons, if_neg (by rw [e]; exact Bool.false_ne_true)]
      show _ = some (HO.lst (_ ++ []))
      rw [List.append_nil]
  · have h2 := hp.2
    rw [List.take_length] at h2
    exact h2
end
/-! ### data stays data -/
mutual
theorem Dp.xt {K : PySem.W.Frag} {H H' : Hp} (x : Xt H H') : ∀ (d : PyData) (v : V), Dp K H v d → Dp K H' v d
  | .none, _, h => by cases h; exact .non
  | .bool b, _, h => by cases h; exact .bl b
  | .int i, _, h => by cases h; exact .int i
  | .str s, _, h => by cases h; exact .str s
  | .list ds, _, h => by
    cases h with
    | lst hs ha => exact .lst (x.sqL hs) (Dp.xts x ds _ ha)
  | .tuple ds, _, h => by
    cases h with
    | tup hs ha => exact .tup (x.sqT hs) (Dp.xts x ds _ ha)
  | .dict _, _, h => by cases h
theorem Dp.xts {K : PySem.W.Frag} {H H' : Hp} (x : Xt H H') : ∀ (ds : List PyData) (vs : List V), DpAll K H vs ds → DpAll K H' vs ds
  | [], _, h => by cases h; exact .nil
  | d :: ds, _, h => by
    cases h with
    | cons h1 h2 => exact .cons (Dp.xt x d _ h1) (Dp.xts x ds _ h2)
end
theorem dp_strs {K : PySem.W.Frag} {H : Hp} : ∀ l : List Str, DpAll K H (l.map V.str) (l.map PyData.str)
  | [] => .nil
  | x :: l => .cons (.str x) (dp_strs l)
theorem shp_all : ∀ ds : List PyData, (∀ d ∈ ds, d.canLay0 = true ∧ d.depth ≤ 8) → PyData.canLayAll0 ds = true ∧ PyData.depthAll ds ≤ 8
  | [], _ => ⟨rfl, Nat.zero_le _⟩
  | d :: ds, h => by
    obtain ⟨h1, h2⟩ := h d (List.mem_cons_self ..)
    obtain ⟨h3, h4⟩ := shp_all ds fun z hz => h z (List.mem_cons_of_mem _ hz)
    refine ⟨?_, ?_⟩
    · show (PyData.canLay0 d && PyData.canLayAll0 ds) = true
      rw [h1, h3]; rfl
    · show max (PyData.depth d) (PyData.depthAll ds) ≤ 8
      exact Nat.max_le.mpr ⟨h2, h4⟩
theorem shp_list {ds : List PyData} (h : ∀ d ∈ ds, d.canLay0 = true ∧ d.depth ≤ 8) : SeqAt.shaped (.list ds) = true := by
  obtain ⟨h1, h2⟩ := shp_all ds h
  show (PyData.canLayAll0 ds && decide (PyData.depthAll ds + 1 ≤ 64)) = true
  rw [h1, decide_eq_true (by omega)]; rfl
/-- a raising way that cannot be -/
theorem tk_dead {X : Cx} : Takes X (fun _ _ _ _ => False) := fun u s' ⟨a, B, sI, pins, σ, H, cls, d, e, I, nb, up, sky, na, os, ag, w⟩ => w.elim
theorem shp_nil : SeqAt.shaped (.list []) = true := by decide
end Gx
set_option Elab.async false
set_option linter.all false
set_option maxRecDepth 100000
set_option maxHeartbeats 2000000
namespace Gx
open PySem PySem.Spec PyProof.Rows L2
/-! ### a list of ints that is drawn from -/
def Dr (H : Hp) (d : Addr) : Prop := ∃ ns : List Int, H d = some (.lst (ns.map V.int))
/-- all stays but the list of draws, which stays one -/
structure Xd (d : Addr) (H H' : Hp) : Prop where
  dr : Dr H' d
  keep : ∀ b o, b ≠ d → H b = some o → (∀ ps, o ≠ .tbl ps) → H' b = some o
  tab : ∀ P ps, H P = some (.tbl ps) → ∃ ps', H' P = some (.tbl ps') ∧ (TriplesOk ps.toList → TriplesOk ps'.toList)
theorem Dr.xt {H H' : Hp} {d : Addr} (h : Dr H d) (x : Xt H H') : Dr H' d := by
  obtain ⟨ns, e⟩ := h
  exact ⟨ns, x.lst e⟩
theorem Xd.refl {H : Hp} {d : Addr} (h : Dr H d) : Xd d H H := ⟨h, fun _ _ _ e _ => e, fun P ps e => ⟨ps, e, id⟩⟩
theorem Xt.xd {H H' : Hp} {d : Addr} (x : Xt H H') (h : Dr H d) : Xd d H H' := ⟨h.xt x, fun b o _ e n => x.keep b o e n, x.tab⟩
theorem Xd.trans {H H1 H2 : Hp} {d : Addr} (a : Xd d H H1) (b : Xd d H1 H2) : Xd d H H2 := ⟨b.dr, fun c o hc h n => b.keep c o hc (a.keep c o hc h n) n, fun P ps h => by
  obtain ⟨p1, e1, f1⟩ := a.tab P ps h
  obtain ⟨p2, e2, f2⟩ := b.tab P p1 e1
  exact ⟨p2, e2, fun z => f2 (f1 z)⟩⟩
theorem Xd.xt {H H1 H2 : Hp} {d : Addr} (a : Xd d H H1) (b : Xt H1 H2) : Xd d H H2 := a.trans (b.xd a.dr)
theorem Xd.lst {H H' : Hp} {d a : Addr} {xs : List V} (x : Xd d H H') (hd : a ≠ d) (h : H a = some (.lst xs)) : H' a = some (.lst xs) := x.keep a _ hd h fun _ => nofun
theorem Xd.tup {H H' : Hp} {d a : Addr} {xs : List V} (x : Xd d H H') (hd : a ≠ d) (h : H a = some (.tup xs)) : H' a = some (.tup xs) := x.keep a _ hd h fun _ => nofun
theorem Xd.tabG {H H' : Hp} {d P : Addr} (x : Xd d H H') (h : GxR.TabG H P) : GxR.TabG H' P := by
  obtain ⟨ps, e, t⟩ := h
  obtain ⟨ps', e', f⟩ := x.tab P ps e
  exact ⟨ps', e', f t⟩
theorem Dr.ne_none {H : Hp} {d p : Addr} (h : Dr H d) (hp : H p = none) : d ≠ p := fun z => by
  obtain ⟨ns, e⟩ := h
  rw [z, hp] at e; cases e
theorem Xd.free {H H' : Hp} {d a : Addr} (x : Xd d H H') (h : H' a = none) : H a = none := by
  have ha : a ≠ d := fun z => x.dr.ne_none h z.symm
  cases q : H a with
  | none => rfl
  | some o =>
    by_cases ht : ∃ ps, o = .tbl ps
    · obtain ⟨ps, rfl⟩ := ht
      obtain ⟨ps', e', _⟩ := x.tab a ps q
      rw [h] at e'; cases e'
    · rw [x.keep a o ha q (fun ps e => ht ⟨ps, e⟩)] at h; cases h
/-- an object that H does not know may change -/
theorem Xd.mut {H H' : Hp} {d p : Addr} {o : HO} (x : Xd d H H') (hd : d ≠ p) (h : H p = none) : Xd d H (upd H' p o) := ⟨by
  obtain ⟨ns, e⟩ := x.dr
  exact ⟨ns, by rw [upd_ne hd]; exact e⟩, fun a u ha e n => by
  rw [upd_ne (ne_of_none e h)]
  exact x.keep a u ha e n, fun P ps hP => by
  rw [upd_ne (ne_of_none hP h)]
  exact x.tab P ps hP⟩
theorem Xd.draw {H : Hp} {d : Addr} {ns : List Int} (h : Dr H d) : Xd d H (upd H d (.lst (ns.map V.int))) := ⟨⟨ns, upd_same ..⟩, fun b o hb e _ => by rw [upd_ne hb]; exact e, fun P ps e => ⟨ps, (by
  obtain ⟨ms, e2⟩ := h
  rw [upd_ne (fun z => by rw [z, e2] at e; cases e)]
  exact e), id⟩⟩
/-! ### promises of the draws -/
def spTake : Sp := fun vs H Q _ => ∃ (d : Addr) (b : Int), vs = [.ref d, .int b] ∧ 0 < b ∧ Dr H d ∧ ∀ H1 r, Xd d H H1 → 0 ≤ r → r < b → Q (.int r) H1
def spPick : Sp := fun vs H Q _ => ∃ (d q : Addr) (xs : List V), vs = [.ref d, .ref q] ∧ q ≠ d ∧ xs ≠ [] ∧ Dr H d ∧ H q = some (.lst xs) ∧ ∀ H1 v, Xd d H H1 → v ∈ xs → Q v H1
def spDraws (K : PySem.W.Frag) : Sp := fun vs H Q _ => ∃ (q : Addr) (ns : List Int), vs = [.ref q] ∧ SqL K H q (ns.map V.int) ∧ ns.length ≤ 1000 ∧ ∀ H1 r, Xt H H1 → H r = none → Dr H1 r → Q (.ref r) H1
/-! ### what the laws' own comparison asks -/
def leafV : V → Bool
  | .non => true
  | .bl _ => true
  | .int _ => true
  | .str _ => true
  | _ => false
def SameD (H : Hp) : Nat → V → V → Prop
  | 0, v, d => leafV v = true ∧ v = d
  | n + 1, v, d => (leafV v = true ∧ v = d) ∨ ∃ (a b : Addr) (xs ys : List V), v = .ref a ∧ d = .ref b ∧ ((H a = some (.tup xs) ∧ H b = some (.tup ys)) ∨ (H a = some (.lst xs) ∧ H b = some (.lst ys))) ∧
      xs.length = ys.length ∧ xs.length ≤ 1000000 ∧ ∀ (i : Nat) (x y : V), xs[i]? = some x → ys[i]? = some y → SameD H n x y
theorem SameD.leaf {H : Hp} {v : V} (h : leafV v = true) : ∀ n, SameD H n v v
  | 0 => ⟨h, rfl⟩
  | _ + 1 => .inl ⟨h, rfl⟩
theorem SameD.xt {H H' : Hp} (x : Xt H H') : ∀ (n : Nat) (v d : V), SameD H n v d → SameD H' n v d
  | 0, _, _, h => h
  | n + 1, v, d, h => by
    rcases h with h | ⟨a, b, xs, ys, rfl, rfl, ho, hl, hz, hi⟩
    · exact .inl h
    · refine .inr ⟨a, b, xs, ys, rfl, rfl, ?_, hl, hz, fun i u w e1 e2 => SameD.xt x n u w (hi i u w e1 e2)⟩
      rcases ho with ⟨h1, h2⟩ | ⟨h1, h2⟩
      · exact .inl ⟨x.tup h1, x.tup h2⟩
      · exact .inr ⟨x.lst h1, x.lst h2⟩
theorem SameD.two {H : Hp} {n : Nat} {v d : V} (h : SameD H n v d) : (leafV v = true ∧ v = d) ∨ ∃ m, n = m + 1 ∧ ∃ (a b : Addr) (xs ys : List V), v = .ref a ∧ d = .ref b ∧ ((H a = some (.tup xs) ∧ H b = some (.tup ys)) ∨ (H a = some (.lst xs) ∧ H b = some (.lst ys))) ∧
      xs.length = ys.length ∧ xs.length ≤ 1000000 ∧ ∀ (i : Nat) (x y : V), xs[i]? = some x → ys[i]? = some y → SameD H m x y := by
  cases n with
  | zero => exact .inl h
  | succ m =>
    rcases h with h | h
    · exact .inl h
    · exact .inr ⟨m, rfl, h⟩
def spSame (n : Nat) : Sp := fun vs H Q _ => ∃ v d, vs = [v, d] ∧ SameD H n v d ∧ ∀ H1, Xt H H1 → Q (.bl true) H1
/-- the name of a plain value's type -/
def tyN : V → String
  | .non => "NoneType"
  | .bl _ => "bool"
  | .int _ => "int"
  | _ => "str"
theorem leaf_ty {K : PySem.W.Frag} {H : Hp} {v : V} (h : leafV v = true) : TyX K H v (.type (tyN v)) := by
  cases v <;> first | exact Bool.noConfusion h | exact .base (by constructor)
def isB (v : V) (c : String) : Bool := (kitB (tyN v) c).getD false
theorem kits : ∀ t ∈ ["NoneType", "bool", "int", "str"], ∀ c ∈ ["tuple", "list", "bool", "int", "str"], kitB t c = some ((kitB t c).getD false) := by decide +kernel
theorem kits0 : ∀ t ∈ ["NoneType", "bool", "int", "str"], (kitB t "tuple").getD false = false ∧ (kitB t "list").getD false = false := by decide +kernel
theorem tyN_mem (v : V) : tyN v ∈ ["NoneType", "bool", "int", "str"] := by
  cases v <;> (unfold tyN; simp)
theorem leaf_kit {v : V} {c : String} (hc : c ∈ ["tuple", "list", "bool", "int", "str"]) : kitB (tyN v) c = some (isB v c) := kits _ (tyN_mem v) c hc
theorem leaf_seq (v : V) : isB v "tuple" = false ∧ isB v "list" = false := kits0 _ (tyN_mem v)
theorem kit_tt : kitB "tuple" "tuple" = some true := by decide +kernel
theorem kit_tl : kitB "tuple" "list" = some false := by decide +kernel
theorem kit_ll : kitB "list" "list" = some true := by decide +kernel
theorem kit_lt : kitB "list" "tuple" = some false := by decide +kernel
theorem rd_is {K : PySem.W.Frag} {σ : L2.St} {H : Hp} {v : V} {i : Nat} {t c : String} {b : Bool} {Q : VK} (hi : σ[i]? = some (some v)) (ht : TyX K H v (.type t)) (hb : kitB t c = some b) (q : Q (.bl b) H) :
    tCB (rIsi K) (tCons (tVar i) (tCons (tC (.ty c)) tNil)) σ H Q := ⟨v, hi, v, .ty c, .type t, .type c, b, rfl, .ty c, ht, kit_ty hb, q⟩
/-- isinstance of one is as of the other -/
theorem rd_ne {K : PySem.W.Frag} {σ : L2.St} {H : Hp} {v u : V} {i j : Nat} {t c : String} {b : Bool} {Q : Bool → Hp → Prop} (hi : σ[i]? = some (some v)) (ht : TyX K H v (.type t)) (hj : σ[j]? = some (some u)) (hu : TyX K H u (.type t)) (hb : kitB t c = some b) (q : Q false H) :
    tTest (tOp rNe (tCB (rIsi K) (tCons (tVar i) (tCons (tC (.ty c)) tNil))) (tCB (rIsi K) (tCons (tVar j) (tCons (tC (.ty c)) tNil)))) σ H Q := by
  refine rd_is hi ht hb (rd_is hj hu hb ⟨rfl, _, rfl, ?_⟩)
  rw [decide_eq_true rfl]
  exact q
theorem rd_or {K : PySem.W.Frag} {σ : L2.St} {H : Hp} {v : V} {i : Nat} {t c c' : String} {b b' : Bool} {Q : Bool → Hp → Prop} (hi : σ[i]? = some (some v)) (ht : TyX K H v (.type t)) (hb : kitB t c = some b) (hb' : kitB t c' = some b') (ho : (b || b') = true) (q : Q true H) :
    tOr (tB (tCB (rIsi K) (tCons (tVar i) (tCons (tC (.ty c)) tNil)))) (tB (tCB (rIsi K) (tCons (tVar i) (tCons (tC (.ty c')) tNil)))) σ H Q := by
  refine rd_is hi ht hb ⟨_, rfl, ite2 (fun _ => q) (fun e => rd_is hi ht hb' ⟨_, rfl, ?_⟩)⟩
  rw [eq_false_of_ne_true e, Bool.false_or] at ho
  rw [ho]
  exact q
theorem rd_ix {K : PySem.W.Frag} {H : Hp} {a : Addr} {xs : List V} {x : V} {i : Int} {Q : VK} (h : H a = some (.tup xs) ∨ H a = some (.lst xs)) (hx : atI xs i = some x) (q : Q x H) : rIx K (.ref a) (.int i) H Q := by
  rcases h with h | h
  · exact .inr (.inl ⟨a, xs, i, x, rfl, rfl, .inl (.inl h), hx, q⟩)
  · exact .inl ⟨a, xs, i, x, rfl, rfl, .inl (.inl h), hx, q⟩
theorem Xt.seq {H H' : Hp} (x : Xt H H') {a : Addr} {xs : List V} (h : H a = some (.tup xs) ∨ H a = some (.lst xs)) : H' a = some (.tup xs) ∨ H' a = some (.lst xs) := by
  rcases h with h | h
  · exact .inl (x.tup h)
  · exact .inr (x.lst h)
theorem seq_sq {K : PySem.W.Frag} {H : Hp} {a : Addr} {xs : List V} (h : H a = some (.tup xs) ∨ H a = some (.lst xs)) : SqL K H a xs ∨ SqT K H a xs := by
  rcases h with h | h
  · exact .inr (.inl (.inl h))
  · exact .inl (.inl (.inl h))
end Gx
namespace Gx
open PySem PySem.Spec PyProof.Rows L2
/-! ### a list made of draws -/
theorem lcd_range {d : Addr} {lo : Int} {m : Nat} {g : TG} {tt : TT} {te : TE} {vs : List Nat} {σ : L2.St} {H1 : Hp} {D : Addr} {Qd : Hp → Prop} (P : V → Prop) (hd : Dr H1 d) (hD : H1 D = none) (hm : m ≤ sizeLine)
    (hs : ∀ (i : Nat) H' (Y : V → Hp → Prop) (N : Hp → Prop), i < m → Xd d H1 H' → (∀ H2 v, Xd d H' H2 → P v → Y v H2) →
      g (.int (lo + i)) (wipe σ vs) H' fun σ2 H2 => wipe σ2 vs = wipe σ vs ∧ tt σ2 H2 fun b H3 => if b = true then te σ2 H3 Y else N H3)
    (hq : ∀ H' ys, Xd d H1 H' → H' D = some (.lst ys) → ys.length = m → (∀ v ∈ ys, P v) → Qd H') :
    ∃ W : Nat → Nat → Hp → Prop, (∃ m, W 0 m (upd H1 D (.lst []))) ∧ ∀ i m' H, W i m' H →
      ((Itr lo m).stop i H ∧ Qd H) ∨ ((Itr lo m).go i H ∧ ∃ Nx : Hp → Prop, (∀ H', Nx H' → ∃ m'', m'' < m' ∧ W (i + 1) m'' H') ∧ ∀ v H', (Itr lo m).yld i H v H' → g v (wipe σ vs) H' fun σ2 H2 => wipe σ2 vs = wipe σ vs ∧ tt σ2 H2 fun b H3 =>
        if b = true then te σ2 H3 fun y H4 => ∃ acc, H4 D = some (.lst acc) ∧ acc.length < sizeLine ∧ Nx (upd H4 D (.lst (acc ++ [y]))) else Nx H3) := by
  have hdD : d ≠ D := hd.ne_none hD
  have hDd : D ≠ d := fun z => hdD z.symm
  refine lc_range (fun i H' => Xd d H1 H' ∧ ∃ ys : List V, H' D = some (.lst ys) ∧ ys.length = i ∧ ∀ v ∈ ys, P v) ⟨(Xd.refl hd).mut hdD hD, [], upd_same .., rfl, fun v hv => by cases hv⟩ (fun i H' hi hp => ?_) (fun H' hp => ?_)
  · obtain ⟨xd, ys, e, hl, hp⟩ := hp
    refine hs i H' _ _ hi xd fun H2 v x2 hv => ⟨ys, x2.lst hDd e, by omega, (xd.trans x2).mut hdD hD, ys ++ [v], upd_same .., by rw [List.length_append, hl]; rfl, fun u hu => ?_⟩
    rcases List.mem_append.mp hu with hu | hu
    · exact hp u hu
    · rw [List.mem_singleton.mp hu]; exact hv
  · obtain ⟨xd, ys, e, hl, hp⟩ := hp
    exact hq H' ys xd e hl hp
end Gx
set_option Elab.async false
set_option linter.all false
set_option maxRecDepth 100000
set_option maxHeartbeats 2000000
namespace Gx
open PySem PySem.Spec PyProof.Rows L2
/-! ### rules with the written part said apart -/
section
variable {X : Cx} {K : PySem.W.Frag}
theorem ix_listK (h : X.K = K) : IxR X (rIxL K) := by subst h; exact ix_list
theorem ix_tupK (h : X.K = K) : IxR X (rIxT K) := by subst h; exact ix_tup
theorem ix_seqK (h : X.K = K) : IxR X (rIx K) := by subst h; exact ix_seq
theorem sl_listK (h : X.K = K) : SlR X (rSlL K) := by subst h; exact sl_list
theorem sl_tupK (h : X.K = K) : SlR X (rSlT K) := by subst h; exact sl_tup
theorem op_catTK (h : X.K = K) : OpR X (binaryOp .Add) (rCatT K) := by subst h; exact op_catT
theorem op_in_seqK (h : X.K = K) : OpR X (compareOp .In) (rIn K false) := by subst h; exact op_in_seq
theorem op_notIn_seqK (h : X.K = K) : OpR X (compareOp .NotIn) (rIn K true) := by subst h; exact op_notIn_seq
theorem op_eqDK (h : X.K = K) (hu : X.A.units + 64 < cLine) : OpR X (compareOp .Eq) (rEqD K) := by subst h; exact op_eqD hu
theorem op_neDK (h : X.K = K) (hu : X.A.units + 64 < cLine) : OpR X (compareOp .NotEq) (rNeD K) := by subst h; exact op_neD hu
def rLenK (K : PySem.W.Frag) : List V → Hp → VK → Prop := fun xs H Q => ∃ p ys, xs = [.ref p] ∧ (SqL K H p ys ∨ SqT K H p ys) ∧ Q (.int ys.length) H
def rListK (K : PySem.W.Frag) : List V → Hp → VK → Prop := fun xs H Q => ∃ p ys, xs = [.ref p] ∧ (SqL K H p ys ∨ SqT K H p ys) ∧ ∀ l, H l = none → Q (.ref l) (upd H l (.lst ys))
def rTupK (K : PySem.W.Frag) : List V → Hp → VK → Prop := fun xs H Q => ∃ p ys, xs = [.ref p] ∧ ((SqL K H p ys ∧ ∀ l, H l = none → Q (.ref l) (upd H l (.tup ys))) ∨ (SqT K H p ys ∧ Q (.ref p) H))
theorem call_len_seqK (h : X.K = K) : CallR X (.builtin "len") (rLenK K) := by subst h; exact call_len_seq
theorem call_list_ofK (h : X.K = K) : CallR X (.type "list") (rListK K) := by subst h; exact call_list_of
theorem call_tuple_ofK (h : X.K = K) : CallR X (.type "tuple") (rTupK K) := by subst h; exact call_tuple_of
theorem call_isiK' (h : X.K = K) : CallR X (.builtin "isinstance") (rIsi K) := by subst h; exact call_isi
theorem cr_maxK (h : X.K = K) (hc : X.calm = true) : CallR X (.builtin "max") (rMax K) := by subst h; exact cr_max hc
theorem cr_minK (h : X.K = K) (hc : X.calm = true) : CallR X (.builtin "min") (rMin K) := by subst h; exact cr_min hc
variable {tg : Expr}
theorem pi_listK {l : Expr} {tl : TE} (h : X.K = K) (hl : PE X l tl) : PI X tg l (iList K tl) := by subst h; exact pi_list hl
theorem pi_tupK {l : Expr} {tl : TE} (h : X.K = K) (hl : PE X l tl) : PI X tg l (iTup K tl) := by subst h; exact pi_tup hl
theorem pg_tupK {es : List Expr} {k : Nat} {t : TGs} {n : Nat} {pos : Pos} (h : X.K = K) (hc : X.calm = true) (hp : PGs X es t)
    (hn : (assignEach es X.env).length = n := by rfl) (hst : (assignEach es X.env).findIdx? (·.1) = none := by rfl) : PG X (.Tuple es k pos) (gTup K n t) := by subst h; exact pg_tup hc hp hn hst
variable {o e : Expr} {es : List Expr} {to : TE} {t : TA} {name : Str} {apos cpos : Pos} {T id : String} {r : V → List V → Hp → VK → Prop}
theorem pe_bm0K (h : X.K = K) (pa : PlainAttrs T) (slot : Slot T name id) (hty : typeOf (.builtin id) = pure (.type "method_descriptor")) (hm : MtR X id r) (ho : PE X o to)
    (hbase : attributeBase o name X.env (eval o X.env) = eval o X.env := by rfl) (hline : (apos.endLine == cpos.line) = true := by rfl) : PE X (.Call (.Attribute o name apos) [] [] cpos) (tBM0 K T r to) := by
  subst h; exact pe_bm0 pa slot hty hm ho hbase hline
theorem pe_bmK (h : X.K = K) (pa : PlainAttrs T) (slot : Slot T name id) (hty : typeOf (.builtin id) = pure (.type "method_descriptor")) (hm : MtR X id r) (ho : PE X o to) (ha : PA X (e :: es) t)
    (hbase : attributeBase o name X.env (eval o X.env) = eval o X.env := by rfl)
    (hfew : ((backTo cpos (starEach (e :: es) X.env)).all (fun x => !x.1) && (backToKw cpos (keywordEach [] X.env)).all (fun x => x.1.isSome)
      && decide ((e :: es).length + ([] : List Keyword).length + (if ([] : List Keyword).isEmpty then 0 else 1) < 30)) = true := by rfl)
    (hline : (apos.endLine == cpos.line) = true := by rfl) (hs : starEach (e :: es) X.env = (false, eval e X.env) :: starEach es X.env := by rfl) (hplain : (backTo cpos (starEach es X.env)).any (·.1) = false := by rfl) :
    PE X (.Call (.Attribute o name apos) (e :: es) [] cpos) (tBM K T r to t) := by
  subst h; exact pe_bm pa slot hty hm ho ha hbase hfew hline hs hplain
theorem pe_bmSK {r : L2.St → V → List V → Hp → VK → Prop} (h : X.K = K) (pa : PlainAttrs T) (slot : Slot T name id) (hty : typeOf (.builtin id) = pure (.type "method_descriptor")) (hm : MtS X id r) (ho : PE X o to) (ha : PA X (e :: es) t)
    (hbase : attributeBase o name X.env (eval o X.env) = eval o X.env := by rfl)
    (hfew : ((backTo cpos (starEach (e :: es) X.env)).all (fun x => !x.1) && (backToKw cpos (keywordEach [] X.env)).all (fun x => x.1.isSome)
      && decide ((e :: es).length + ([] : List Keyword).length + (if ([] : List Keyword).isEmpty then 0 else 1) < 30)) = true := by rfl)
    (hline : (apos.endLine == cpos.line) = true := by rfl) (hs : starEach (e :: es) X.env = (false, eval e X.env) :: starEach es X.env := by rfl) (hplain : (backTo cpos (starEach es X.env)).any (·.1) = false := by rfl) :
    PE X (.Call (.Attribute o name apos) (e :: es) [] cpos) (tBMS K T r to t) := by
  subst h; exact pe_bmS pa slot hty hm ho ha hbase hfew hline hs hplain
/-- by truth -/
theorem pt_truthK {a : Expr} {ta : TE} (h : X.K = K) (ha : PE X a ta) (he : ∀ whole, isTrue a X.env whole = (do let v ← whole; standAt a.pos; holding [v] (truthy v))) :
    PT X a (fun σ H Q => ta σ H fun x H' => ∃ k, TruV K x H' k ∧ Q k H') := by subst h; exact pt_truth ha he
theorem pi_enumK {e : Expr} {ta : TA} {p pos tpos : Pos} {elts : List Expr} {kk : Nat} (h : X.K = K) (hg : Gl X "enumerate") (hm : X.mg "enumerate" = none) (ha : PA X [e] ta) (hs : starEach [e] X.env = [(false, eval e X.env)] := by rfl) :
    PI X (.Tuple elts kk tpos) (.Call (.Name "enumerate" p) [e] [] pos) (iEnum K ta) := by subst h; exact pi_enum hg hm ha hs
theorem pi_reversedK {e : Expr} {ta : TA} {p pos : Pos} (h : X.K = K) (hg : Gl X "reversed") (hm : X.mg "reversed" = none) (ha : PA X [e] ta) (hs : starEach [e] X.env = [(false, eval e X.env)] := by rfl) : PI X tg (.Call (.Name "reversed" p) [e] [] pos) (iRev K ta) := by
  subst h; exact pi_reversed hg hm ha hs
theorem pi_zipK {e e2 : Expr} {ta : TA} {p pos tpos : Pos} {elts : List Expr} {kk : Nat} (h : X.K = K) (hg : Gl X "zip") (hm : X.mg "zip" = none) (ha : PA X [e, e2] ta)
    (hs : starEach [e, e2] X.env = (false, eval e X.env) :: starEach [e2] X.env := by rfl) (hpl : (backTo pos (starEach [e2] X.env)).any (·.1) = false := by rfl) :
    PI X (.Tuple elts kk tpos) (.Call (.Name "zip" p) [e, e2] [] pos) (iZip K ta) := by subst h; exact pi_zip hg hm ha hs hpl
theorem pe_listRevK {e : Expr} {te : TE} {p p2 pos pos2 : Pos} (h : X.K = K) (hc : X.calm = true) (hg : Gl X "list") (hm : X.mg "list" = none) (hg2 : Gl X "reversed") (hm2 : X.mg "reversed" = none) (he : PE X e te)
    (hs : starEach [e] X.env = (false, eval e X.env) :: starEach [] X.env := by rfl)
    (hs2 : starEach [.Call (.Name "reversed" p2) [e] [] pos2] X.env = (false, eval (.Call (.Name "reversed" p2) [e] [] pos2) X.env) :: starEach [] X.env := by rfl) :
    PE X (.Call (.Name "list" p) [.Call (.Name "reversed" p2) [e] [] pos2] [] pos) (tListRev K te) := by subst h; exact pe_listRev hc hg hm hg2 hm2 he hs hs2
end
end Gx
set_option Elab.async false
set_option linter.all false
set_option maxRecDepth 100000
set_option maxHeartbeats 2000000
namespace Gx
open PySem PySem.Spec PyProof.Rows L2
/-! ### the end: tables of several defs -/
theorem walk_ofAll {l : PySem.W.OpenLaw} {n k : Nat} {q : Program} {loose : List Str} {XP : (Str → Option Value) → Heap → Prop} {YP : World → Heap → Prop} {d : DefRec} {K : Params → PySem.W.Frag} {CX : World → CXT} {x : Str} (recs : List Str)
    (hn : l.most = some n) (hn2 : n ≤ sizeLine) (hdf : d.params.defaults = []) (hr : Room k callerA) (hrec : ∀ y ∈ recs, ((recsOf q).any fun e => e.name == y) = true) (hY : ∀ (w : World) (h : Heap), YP w h → (K w.params).In h)
    (F : ∀ (w : World) (mg : Str → Option Value) (fa : Addr) (h : Heap), YP w h → (K w.params).In h → h.Ns mainGlobals mg → mg d.name = some (.ref fa) → (∀ y ∈ recs, ∀ f, mg y = some (.ref f) → LamX.OwnTab (K w.params) f h) → LamX.LawAtS l w (K w.params) (CX w) k n x mg fa h)
    (hCX : ∀ (w : World) (H : Hp) (s : Shared) (e : Value) (s' : Shared), CX w [] H s (fun _ _ _ => False) e s' → False) :
    PySem.W.WalkO q loose XP YP l.row.toRowW d [] (fun f vs => PySem.call f vs) := by
  refine Att.attach_callB hn hdf fun w s₀ s₁ mg mb fa o pm cd doc a vs ns G Y ho hd hcd hmg hobj hints hlen hbits hg => ?_
  have KX := hY w _ Y
  have own : ∀ y ∈ recs, ∀ f, mg y = some (.ref f) → LamX.OwnTab (K w.params) f s₁.heap := fun y hy f hf c P o1 fd1 e dd vs1 sl k1 k2 k3 k4 k5 => by
    obtain ⟨dL, hm, hn1⟩ := List.any_eq_true.mp (hrec y hy)
    have hn2 : dL.name = y := beq_iff_eq.mp hn1
    obtain ⟨a', o', fd', c', P', h1, h2, h3, h4, h5, h6⟩ := G.T.tab dL hm
    rw [hn2, hf] at h1
    cases h1
    have g1 := KX _ _ k1
    rw [g1] at h2
    cases h2
    rw [k2] at h3
    cases h3
    rw [k3] at h4
    cases h4
    obtain ⟨⟨oc, vc, e1, _, e3, e4⟩, hP⟩ := h6
    have g2 := KX _ _ k4
    rw [g2] at e1
    cases e1
    cases e3
    rw [k5] at e4
    cases e4
    exact hP
  obtain ⟨fd, cs, sp, hT, nT, C, hb, hsp, hF⟩ := F w mg fa _ Y KX G.T.g hmg own
  exact LamX.law_callTs KX G.T.g G.T.b G.T.builtins G.T.nolimit hg hT nT C G.T.bmain hobj hints (Nat.le_trans hlen hn2) hr hF hb (fun H hH hS => hsp H a ns hlen hbits hH hS) fun H e s' => hCX w H s₁ e s'
/-- a def at its place -/
theorem funT_mk {K : PySem.W.Frag} {x : Str} {st : Stmt} {f c : Addr} {od an : Option Addr} {sl : Array (Option Value)} {oc kV dc pm ct : Value} (l : K.lookup f = some ⟨oc, od, .func (PySem.W.fnOf x x (defArgs st) (defBody st) (defScope st) .none kV dc pm an (.ref c) ct), sl⟩)
    (hc : PySem.W.codeIn K (.ref c) x = true) (hk : PySem.W.keepIn K (.ref f) = true) : FunT K x st f (PySem.W.fnOf x x (defArgs st) (defBody st) (defScope st) .none kV dc pm an (.ref c) ct) c := ⟨⟨oc, od, kV, dc, pm, an, ct, sl, rfl, l, hc⟩, hk⟩
theorem tabB_of {base : Heap} {mg : Str → Option Value} {c P : Addr} (t : LamX.TabB base mg c P) : GxR.TabB base mg c P := ⟨t.1, t.2, t.3⟩
/-- the def's own table, from what is read in the written part -/
theorem tab_own {K : PySem.W.Frag} {h : Heap} {x : Str} {st : Stmt} {f c P : Addr} {fd : FuncData} {e : Value} {dd : Option Addr} {vs : Array Value} {sl : Array (Option Value)} (F : FunT K x st f fd c) (o : LamX.OwnTab K f h) (l : K.lookup c = some ⟨e, dd, .fields vs, sl⟩) (hv : vs[11]? = some (.ref P)) :
    h.get? P = some { cls := .none, data := .fields #[] } := by
  obtain ⟨oc, od, kV, doc, pm, an, ct, osl, rfl, lk, _⟩ := F.ex
  exact o c P _ _ e dd vs sl lk rfl rfl l hv
theorem tabG_nil {H : Hp} {P : Addr} (h : H P = some (.tbl #[])) : GxR.TabG H P := ⟨_, h, trivial⟩
/-- a code object's head, from its fields -/
def hdB (e : Value) (vs : Array Value) (c P : Addr) : Bool := (match e with | .type "code" => true | _ => false) && (match (vs[11]? : Option Value) with | some (.ref P') => P' == P | _ => false) &&
  (match vs.getD 18 .none with | .str _ _ => true | _ => false) && (match vs.getD 7 .none with | .int _ _ => true | _ => false) && (match vs.getD 9 .none with | .bool _ => true | _ => false) && (match vs.getD 10 .none with | .int _ _ => true | _ => false) && c != P
theorem hd_of {K : PySem.W.Frag} {c P : Addr} {e : Value} {dd : Option Addr} {vs : Array Value} {sl : Array (Option Value)} (l : K.lookup c = some ⟨e, dd, .fields vs, sl⟩) (h : hdB e vs c P = true) : PySem.W.codeHdIn K c P = true := by
  unfold PySem.W.codeHdIn
  rw [l]
  unfold hdB at h
  simp only [Bool.and_eq_true] at h
  obtain ⟨⟨⟨⟨⟨⟨h1, h2⟩, h3⟩, h4⟩, h5⟩, h6⟩, h7⟩ := h
  split at h1
  · simp only [Bool.and_eq_true]
    exact ⟨⟨⟨⟨⟨h2, h3⟩, h4⟩, h5⟩, h6⟩, h7⟩
  · cases h1
end Gx
set_option Elab.async false
set_option linter.all false
set_option maxRecDepth 100000
set_option maxHeartbeats 4000000
/-! a dict by a comprehension with two clauses -/
namespace Dq
open PySem PySem.Spec PyProof.Rows L2
theorem compTurnD_out (kx vx tgA itA tgC itC : Expr) (ifA ifsB : List Expr) (scope : Scope) (pos : Pos) (it : Value) (D : Addr) (env : Env) :
    compTurn (.DictComp kx vx [⟨tgA, itA, ifA, 0⟩, ⟨tgC, itC, ifsB, 0⟩] scope pos) 0 it (.ref D) env = (do
      standAt itA.pos
      match ← pyNext it with
      | none => pure (.done .next)
      | some v =>
        letOwnedTupleGo tgA it v
        assign tgA env v
        let mut okB := true
        for c in ifA do
          if okB then okB ← isTrue c env (eval c env)
        if okB then
          let x ← eval itC env
          standAt itC.pos
          let x ← foldedSetIterable itC env x
          let _ ← runOwn (.compStart (.DictComp kx vx [⟨tgA, itA, ifA, 0⟩, ⟨tgC, itC, ifsB, 0⟩] scope pos) 1 (← holding [x] (pyIter x)) (.ref D) env) env
        again (.compLoop (.DictComp kx vx [⟨tgA, itA, ifA, 0⟩, ⟨tgC, itC, ifsB, 0⟩] scope pos) 0 it (.ref D) env)) := by rfl
theorem compTurnD_in (kx vx tgA itA tgC itC : Expr) (ifA ifsB : List Expr) (scope : Scope) (pos : Pos) (it : Value) (D : Addr) (env : Env) :
    compTurn (.DictComp kx vx [⟨tgA, itA, ifA, 0⟩, ⟨tgC, itC, ifsB, 0⟩] scope pos) 1 it (.ref D) env = (do
      standAt itC.pos
      match ← pyNext it with
      | none => pure (.done .next)
      | some v =>
        letOwnedTupleGo tgC it v
        assign tgC env v
        let mut okB := true
        for c in ifsB do
          if okB then okB ← isTrue c env (eval c env)
        if okB then
          (do
            let kw ← eval kx env
            let vw ← holding [kw] (eval vx env)
            standAt { kx.pos with endLine := vx.pos.endLine, endCol := vx.pos.endCol }
            holding [kw, vw] (dictSet D kw vw))
        again (.compLoop (.DictComp kx vx [⟨tgA, itA, ifA, 0⟩, ⟨tgC, itC, ifsB, 0⟩] scope pos) 1 it (.ref D) env)) := by rfl

section
variable {prog : Program} {w : World} {A : Around} {R : Result → Shared → Prop} {s : Shared} {kx vx tgA itA tgC itC : Expr} {ifA ifsB : List Expr} {scope : Scope} {pos : Pos} {it : Value} {D : Addr} {env : Env}
/-- the first clause -/
theorem compLoopD_out (hFo : ∀ x, foldedSetIterable itC env x = pure x) (J0v : Nat → Shared → Prop)
    (trn : ∀ n s, J0v n s → wpAny (model prog w) A (pyNext it) (fun r s₁ => match r with
      | none => R (.ok .next) s₁
      | some v => wpAny (model prog w) A (letOwnedTupleGo tgA it v) (fun _ s₁' => wpAny (model prog w) A (assign tgA env v) (fun _ s₂ =>
          wpAny (model prog w) A (forIn ifA true fun c r => if r = true then do let okB ← isTrue c env (eval c env); pure (ForInStep.yield okB) else pure (ForInStep.yield r)) (fun okB s₃ =>
            if okB = true then wpAny (model prog w) A (eval itC env) (fun x s₄ => wpAny (model prog w) A (pyIter x) (fun itB s₅ =>
              codeAny (model prog w) A (.compStart (.DictComp kx vx [⟨tgA, itA, ifA, 0⟩, ⟨tgC, itC, ifsB, 0⟩] scope pos) 1 itB (.ref D) env) (fun r s' => match r with
                | .ok _ => ∃ m, m < n ∧ J0v m s'
                | .error _ => False) s₅) (notedBy (model prog w) A env fun e s' => R (.error e) s') s₄) (notedBy (model prog w) A env fun e s' => R (.error e) s') s₃
            else ∃ m, m < n ∧ J0v m s₃) (notedBy (model prog w) A env fun e s' => R (.error e) s') s₂) (notedBy (model prog w) A env fun e s' => R (.error e) s') s₁') (notedBy (model prog w) A env fun e s' => R (.error e) s') s₁) (notedBy (model prog w) A env fun e s' => R (.error e) s') s)
    (n : Nat) (hRd : J0v n s) :
    codeAny (model prog w) A (.compLoop (.DictComp kx vx [⟨tgA, itA, ifA, 0⟩, ⟨tgC, itC, ifsB, 0⟩] scope pos) 0 it (.ref D) env) R s := by
  refine codeAny_loop rfl J0v (fun n s hI => ?_) n hRd
  show wpAny _ A ((compTurn (.DictComp kx vx [⟨tgA, itA, ifA, 0⟩, ⟨tgC, itC, ifsB, 0⟩] scope pos) 0 it (.ref D) env).onRaise (fun x => do noteFrame x env; theTreesLotGoes x)) _ _ s
  refine wpAny_noted ?_
  rw [compTurnD_out]
  refine wpAny_bind (wpAny_standAt (wpAny_bind (wpAny_mono (trn n s hI) (fun r s₁ h₁ => ?_) fun _ _ h' => h')))
  cases r with
  | none => exact wpAny_pure h₁
  | some v =>
    refine wpAny_bind (wpAny_mono h₁ (fun _ s₁' h₁' => ?_) fun _ _ h' => h')
    refine wpAny_bind (wpAny_mono h₁' (fun _ s₂ h₂ => wpAny_bind (wpAny_mono h₂ (fun okB s₃ h₃ => ?_) fun _ _ h' => h')) fun _ _ h' => h')
    cases okB with
    | false => exact wpAny_pure ⟨rfl, h₃⟩
    | true =>
      refine wpAny_bind (wpAny_mono h₃ (fun x s₄ h₄ => ?_) fun _ _ h' => h')
      refine wpAny_bind (wpAny_standAt (wpAny_bind (wpAny_of_eq (hFo x) (wpAny_bind (wpAny_holding (wpAny_mono h₄ (fun itB s₅ h₅ => ?_) fun _ _ h' => h'))))))
      refine wpAny_bind (wpAny_runOwn ?_)
      rw [Around.mark_none]
      refine codeAny_mono h₅ fun r s' hr => ?_
      cases r with
      | ok f =>
        first
          | exact wpAny_pure ⟨rfl, hr⟩
          | exact wpAny_bind (wpAny_pure (wpAny_pure ⟨rfl, hr⟩))
      | error e => exact hr.elim
/-- the second clause -/
theorem compLoopD_in (J0v : Nat → Shared → Prop)
    (trn : ∀ n s, J0v n s → wpAny (model prog w) A (pyNext it) (fun r s₁ => match r with
      | none => R (.ok .next) s₁
      | some v => wpAny (model prog w) A (letOwnedTupleGo tgC it v) (fun _ s₁' => wpAny (model prog w) A (assign tgC env v) (fun _ s₂ =>
          wpAny (model prog w) A (forIn ifsB true fun c r => if r = true then do let okB ← isTrue c env (eval c env); pure (ForInStep.yield okB) else pure (ForInStep.yield r)) (fun okB s₃ =>
            if okB = true then wpAny (model prog w) A (eval kx env) (fun kw s₄ => wpAny (model prog w) A (eval vx env) (fun vw s₅ =>
              wpAny (model prog w) A (dictSet D kw vw) (fun _ s₆ => ∃ m, m < n ∧ J0v m s₆) (notedBy (model prog w) A env fun e s' => R (.error e) s') s₅) (notedBy (model prog w) A env fun e s' => R (.error e) s') s₄) (notedBy (model prog w) A env fun e s' => R (.error e) s') s₃
            else ∃ m, m < n ∧ J0v m s₃) (notedBy (model prog w) A env fun e s' => R (.error e) s') s₂) (notedBy (model prog w) A env fun e s' => R (.error e) s') s₁') (notedBy (model prog w) A env fun e s' => R (.error e) s') s₁) (notedBy (model prog w) A env fun e s' => R (.error e) s') s)
    (n : Nat) (hRd : J0v n s) :
    codeAny (model prog w) A (.compLoop (.DictComp kx vx [⟨tgA, itA, ifA, 0⟩, ⟨tgC, itC, ifsB, 0⟩] scope pos) 1 it (.ref D) env) R s := by
  refine codeAny_loop rfl J0v (fun n s hI => ?_) n hRd
  show wpAny _ A ((compTurn (.DictComp kx vx [⟨tgA, itA, ifA, 0⟩, ⟨tgC, itC, ifsB, 0⟩] scope pos) 1 it (.ref D) env).onRaise (fun x => do noteFrame x env; theTreesLotGoes x)) _ _ s
  refine wpAny_noted ?_
  rw [compTurnD_in]
  refine wpAny_bind (wpAny_standAt (wpAny_bind (wpAny_mono (trn n s hI) (fun r s₁ h₁ => ?_) fun _ _ h' => h')))
  cases r with
  | none => exact wpAny_pure h₁
  | some v =>
    refine wpAny_bind (wpAny_mono h₁ (fun _ s₁' h₁' => ?_) fun _ _ h' => h')
    refine wpAny_bind (wpAny_mono h₁' (fun _ s₂ h₂ => wpAny_bind (wpAny_mono h₂ (fun okB s₃ h₃ => ?_) fun _ _ h' => h')) fun _ _ h' => h')
    cases okB with
    | false => exact wpAny_pure ⟨rfl, h₃⟩
    | true =>
      refine wpAny_bind (wpAny_bind (wpAny_mono h₃ (fun kw s₄ h₄ => wpAny_bind (wpAny_holding (wpAny_mono h₄ (fun vw s₅ h₅ => ?_) fun _ _ q => q))) fun _ _ q => q))
      exact wpAny_bind (wpAny_standAt (wpAny_holding (wpAny_mono h₅ (fun _ s₆ h₆ => wpAny_pure ⟨rfl, h₆⟩) fun _ _ q => q)))
/-- the second clause's start -/
theorem compStartD_ok (h0 : codeAny (model prog w) A (.compLoop (.DictComp kx vx [⟨tgA, itA, ifA, 0⟩, ⟨tgC, itC, ifsB, 0⟩] scope pos) 1 it (.ref D) env) R s)
    (hRd : wpAny (model prog w) A (pyIter it) (fun it' s' => codeAny (model prog w) A (.compLoop (.DictComp kx vx [⟨tgA, itA, ifA, 0⟩, ⟨tgC, itC, ifsB, 0⟩] scope pos) 1 it' (.ref D) env) R s')
      (notedBy (model prog w) A env fun x s' => R (.error x) s') s) :
    codeAny (model prog w) A (.compStart (.DictComp kx vx [⟨tgA, itA, ifA, 0⟩, ⟨tgC, itC, ifsB, 0⟩] scope pos) 1 it (.ref D) env) R s := by
  refine codeAny_of_tree ?_
  show wpAny _ _ ((compStart (.DictComp kx vx [⟨tgA, itA, ifA, 0⟩, ⟨tgC, itC, ifsB, 0⟩] scope pos) 1 it (.ref D) env).onRaise (fun x => do noteFrame x env; standAt theWindowsPlace)) _ _ s
  refine wpAny_notedAt ?_
  unfold compStart
  show wpAny _ _ (ask >>= _) _ _ s
  refine wpAny_bind (wpAny_askSetting (wpAny_ite ?_))
  split
  · first
      | exact wpAny_bind (wpAny_pure (wpAny_pure (And.intro rfl h0)))
      | exact wpAny_pure (And.intro rfl h0)
  · first
      | exact wpAny_bind (wpAny_rule (wpAny_bind (wpAny_standAt (wpAny_bind (wpAny_mono hRd (fun it' s' h' => wpAny_pure (And.intro rfl h')) fun _ _ x => x)))))
      | (refine wpAny_bind (wpAny_rule ?_); show wpAny _ _ (standAt itC.pos >>= _) _ _ s; exact wpAny_bind (wpAny_standAt (wpAny_bind (wpAny_mono hRd (fun it' s' h' => wpAny_pure (And.intro rfl h')) fun _ _ x => x))))
end
section
variable {X : Cx}
/-- {k: v for tg in iter if .. for tgB in iterB if ..} -/
def tDc2 (wi : TI) (g : TG) (tt : TT) (wiB : TI) (gB : TG) (ttB : TT) (tk tv : TE) (vs vsB : List Nat) : TE := fun σ H Q => wi σ H fun J H1 => ∀ D, H1 D = none → ∃ W : Nat → Nat → Hp → Prop, (∃ m, W 0 m (upd H1 D (.dK []))) ∧ ∀ i m H, W i m H →
  (J.stop i H ∧ Q (.ref D) H) ∨ (J.go i H ∧ ∃ Nw : Hp → Prop, (∀ H', Nw H' → ∃ m', m' < m ∧ W (i + 1) m' H') ∧ ∀ x H', J.yld i H x H' → g x (wipe σ vs) H' fun σ2 H2 => wipe σ2 vs = wipe σ vs ∧ tt σ2 H2 fun b H3 =>
    if b = true then wiB σ2 H3 fun JB H4 => ∃ WB : Nat → Nat → Hp → Prop, (∃ m, WB 0 m H4) ∧ ∀ j k H, WB j k H →
      (JB.stop j H ∧ Nw H) ∨ (JB.go j H ∧ ∃ NwB : Hp → Prop, (∀ H', NwB H' → ∃ k', k' < k ∧ WB (j + 1) k' H') ∧ ∀ x H', JB.yld j H x H' → gB x (wipe σ2 vsB) H' fun σ3 H5 => wipe σ3 vsB = wipe σ2 vsB ∧ ttB σ3 H5 fun b H6 =>
        if b = true then tk σ3 H6 fun y H7 => tv σ3 H7 fun z H8 => ∃ kvs ky, y = kV ky ∧ H8 D = some (.dK kvs) ∧ kvs.length < sizeLine ∧ NwB (upd H8 D (.dK (putK kvs ky z))) else NwB H6)
    else Nw H3)
theorem dc2_core {pins : List (Addr × Obj)} {s : Shared} {σ : L2.St} {H : Hp} {Q : VK} {kx vx tg iter tgB iterB : Expr} {ifs ifsB : List Expr} {scope : Scope} {own : List (Str × Nat)} {vsB : List Nat} {pos pos' : Pos} {wi wiB : TI} {g gB : TG} {tt ttB : TT} {tk tv : TE} {use : Option (Value → Sem Unit)} {Qf : Value → Shared → Prop}
    (hCa : X.calm = true) (hNd : X.N.Nodup) (J0v : Inv X pins σ H s) (hIt : PI X tg iter wi) (okB : BlkOk X.N X.env.scope scope own) (hOw : ∀ i ∈ vsB, i ∈ own.map (·.2))
    (hTg : ∀ (s : Shared) (H : Hp) (C : Addr) (cl : List (Str × Addr)) (pv : List Addr), PG (X.blk s H scope (compEnvC scope cl C X.env) pv) tg g) (hTs : ∀ (s : Shared) (H : Hp) (C : Addr) (cl : List (Str × Addr)) (pv : List Addr), PTs (X.blk s H scope (compEnvC scope cl C X.env) pv) ifs tt)
    (hKy : ∀ (s : Shared) (H : Hp) (C : Addr) (cl : List (Str × Addr)) (pv : List Addr), PE (X.blk s H scope (compEnvC scope cl C X.env) pv) kx tk)
    (hVl : ∀ (s : Shared) (H : Hp) (C : Addr) (cl : List (Str × Addr)) (pv : List Addr), PE (X.blk s H scope (compEnvC scope cl C X.env) pv) vx tv) (hFo : ∀ x, foldedSetIterable iter X.env x = pure x)
    (hIt2 : ∀ (s : Shared) (H : Hp) (C : Addr) (cl : List (Str × Addr)) (pv : List Addr), PI (X.blk s H scope (compEnvC scope cl C X.env) pv) tgB iterB wiB)
    (hTg2 : ∀ (s : Shared) (H : Hp) (C : Addr) (cl : List (Str × Addr)) (pv : List Addr), PG (X.blk s H scope (compEnvC scope cl C X.env) pv) tgB gB)
    (hTs2 : ∀ (s : Shared) (H : Hp) (C : Addr) (cl : List (Str × Addr)) (pv : List Addr), PTs (X.blk s H scope (compEnvC scope cl C X.env) pv) ifsB ttB)
    (hFo2 : ∀ env x, foldedSetIterable iterB env x = pure x)
    (hRd : tDc2 wi g tt wiB gB ttB tk tv (own.map (·.2)) vsB σ H Q)
    (hEnd : ∀ D C s' m H', Inv X pins σ H' s' → Q (.ref D) H' → s'.heap.Ns C m → FpOk X pins H' C → compPost (model X.prog X.w) X.A X.xe use Qf (.ref D) C (.ok .next) s') :
    wpAny (model X.prog X.w) X.A (comprehension (.DictComp kx vx [⟨tg, iter, ifs, 0⟩, ⟨tgB, iterB, ifsB, 0⟩] scope pos) scope X.env pos' newDict false (eval iter X.env) use) Qf X.xe s := by
  have hfree : ∀ y ∈ scope.names, y.2 = .free → ∃ c, X.env.cells.lookup y.1 = some c := fun y hy e => by
    rcases okB.free y hy e with k | k
    · exact J0v.ok.has _ (.inl k)
    · exact J0v.ok.has _ (.inr k)
  refine wpAny_comprehension_free (use := use) rfl hFo (closure_ok hfree) okB.kind (fun y hy e => by rw [okB.uniq y hy, e])
    (thn (hIt.run pins s σ H _ J0v hRd) fun xw q1s hx => thn hx fun itw q2s h2 => ?_)
  obtain ⟨it, pv, tq, J, G2, e, J2v, Tw, sA2, fq2, q⟩ := h2
  subst e
  refine wpAny_newObj_type (newEnv_comp ?_)
  generalize hNew : q2s.heap.objs.size = D
  have hFree : G2 D = none := J2v.hok.fresh (Nat.le_of_eq hNew)
  obtain ⟨W, ⟨mS, wS⟩, trn⟩ := q D hFree
  -- the new dict
  generalize hs3 : ({ q2s with heap := q2s.heap.push { cls := .type "dict", data := .dict #[] } } : Shared) = q3s
  have J3v : Inv X pins σ (upd G2 D (.dK [])) q3s := by
    rw [← hs3]
    refine J2v.laid (t' := q2s.toks) (fun c o e => Heap.get?_push_of_some _ e) (Nat.le_of_eq hNew) ?_
    rw [← hNew]
    exact dk_empty q2s.heap J2v.big
  have h3 : q3s.heap = q2s.heap.push { cls := .type "dict", data := .dict #[] } := by rw [← hs3]
  have szb : ∀ b ∈ pv, b < q2s.heap.objs.size := fun b hb => by
    obtain ⟨o, e, _⟩ := Tw.obj _ _ sA2 b hb
    exact Heap.lt_size e
  have fq3 : ∀ b ∈ pv, FpOk X pins (upd G2 D (.dK [])) b ∧ b < q3s.heap.objs.size := fun b hb => by
    have hlt := szb b hb
    refine ⟨⟨?_, (fq2 b hb).2⟩, by rw [h3, Heap.size_push]; exact Nat.lt_succ_of_lt hlt⟩
    rw [upd_ne (by rw [← hNew]; exact Nat.ne_of_lt hlt)]
    exact (fq2 b hb).1
  have sA3 : tq 0 q3s.heap := Tw.keep _ _ _ sA2 fun b _ o e => by rw [h3]; exact Heap.get?_push_of_some _ e
  have J4v := block_start J3v okB hNd fq3
  have rTg := hTg q3s (upd G2 D (.dK [])) q3s.heap.objs.size (cellsFrom (q3s.heap.objs.size + 1) scope.names (cloFrom X.env.cells scope.names [])) pv
  have rTs := hTs q3s (upd G2 D (.dK [])) q3s.heap.objs.size (cellsFrom (q3s.heap.objs.size + 1) scope.names (cloFrom X.env.cells scope.names [])) pv
  have rKy := hKy q3s (upd G2 D (.dK [])) q3s.heap.objs.size (cellsFrom (q3s.heap.objs.size + 1) scope.names (cloFrom X.env.cells scope.names [])) pv
  have rVl := hVl q3s (upd G2 D (.dK [])) q3s.heap.objs.size (cellsFrom (q3s.heap.objs.size + 1) scope.names (cloFrom X.env.cells scope.names [])) pv
  have rIt2 := hIt2 q3s (upd G2 D (.dK [])) q3s.heap.objs.size (cellsFrom (q3s.heap.objs.size + 1) scope.names (cloFrom X.env.cells scope.names [])) pv
  have rTg2 := hTg2 q3s (upd G2 D (.dK [])) q3s.heap.objs.size (cellsFrom (q3s.heap.objs.size + 1) scope.names (cloFrom X.env.cells scope.names [])) pv
  have rTs2 := hTs2 q3s (upd G2 D (.dK [])) q3s.heap.objs.size (cellsFrom (q3s.heap.objs.size + 1) scope.names (cloFrom X.env.cells scope.names [])) pv
  show codeAny _ _ (.compStart (.DictComp kx vx [⟨tg, iter, ifs, 0⟩, ⟨tgB, iterB, ifsB, 0⟩] scope pos) 0 (.ref it) (.ref D) (compEnvC scope (cellsFrom (q3s.heap.objs.size + 1) scope.names (cloFrom X.env.cells scope.names [])) q3s.heap.objs.size X.env)) (compPost (model X.prog X.w) X.A X.xe use Qf (.ref D) q3s.heap.objs.size) { q3s with heap := pushCells (q3s.heap.push { cls := .type "dict", data := .dict #[] }) scope.names }
  have nPv : ∀ b ∈ pv, (upd G2 D (.dK [])) b = none := fun b hb => (fq3 b hb).1.1
  generalize hce : compEnvC scope (cellsFrom (q3s.heap.objs.size + 1) scope.names (cloFrom X.env.cells scope.names [])) q3s.heap.objs.size X.env = bEnv at J4v rTg rTs rKy rVl rIt2 rTg2 rTs2 ⊢
  have cL : bEnv.locals = q3s.heap.objs.size := by subst hce; rfl
  generalize hH3 : upd G2 D (.dK []) = G3 at J3v J4v rTg rTs rKy rVl rIt2 rTg2 rTs2 wS nPv fq3
  generalize hs4 : ({ q3s with heap := pushCells (q3s.heap.push { cls := .type "dict", data := .dict #[] }) scope.names } : Shared) = u4 at J4v ⊢
  have sA4 : tq 0 u4.heap := Tw.keep _ _ _ sA3 fun b _ o e => by rw [← hs4]; exact pushCells_keeps _ _ _ _ (Heap.get?_push_of_some _ e)
  have still : ∀ {σ' : L2.St} {H' : Hp} {s' : Shared}, Inv (X.blk q3s G3 scope bEnv pv) [] σ' H' s' → (∀ b ∈ pv, H' b = none) → ∀ b ∈ pv, FpOk (X.blk q3s G3 scope bEnv pv) [] H' b := fun {σ' H' s'} I' hn b hb =>
    ⟨hn b hb, (I'.ok.exf b hb).1, I'.ok.exfs b hb, .inl hb, fun x c e => (I'.ok.exf b hb).2 x c e, fun p hp => absurd (show p ∈ ([] : List (Addr × Obj)) ++ [] from hp) (by simp)⟩
  have lpA : codeAny (model X.prog X.w) X.A (.compLoop (.DictComp kx vx [⟨tg, iter, ifs, 0⟩, ⟨tgB, iterB, ifsB, 0⟩] scope pos) 0 (.ref it) (.ref D) bEnv) (compPost (model X.prog X.w) X.A X.xe use Qf (.ref D) q3s.heap.objs.size) u4 := by
    refine compLoopD_out (hFo2 bEnv) (fun n s' => ∃ i H', Inv (X.blk q3s G3 scope bEnv pv) [] (wipe σ (own.map (·.2))) H' s' ∧ tq i s'.heap ∧ (∀ b ∈ pv, H' b = none) ∧ W i n H') ?_ mS ⟨0, G3, J4v, sA4, nPv, wS⟩
    rintro n u5 ⟨i, G5, J5v, sA5, n5, w5⟩
    rcases trn i n G5 w5 with ⟨ends, qq⟩ | ⟨goes, Nw, hNw, stp⟩
    · have td := Tw.done (X.blk q3s G3 scope bEnv pv) rfl rfl rfl hCa i [] u5 _ G5 (fun _ _ => False) J5v (still J5v n5) sA5 ends
      refine thnF td fun r u6 ⟨hr, J6v⟩ => ?_
      subst hr
      -- back in the def's context
      have J7v : Inv X pins σ G5 u6 := J3v.call' (ch := pv) J6v.os J6v.base J6v.hok J6v.bare fun b hb => ⟨(fq3 b hb).1.2.2.2.1, (fq3 b hb).1.2.1, (fq3 b hb).1.2.2.2.2.1, (fq3 b hb).1.2.2.2.2.2⟩
      have nC : G5 q3s.heap.objs.size = none := by
        have z : G5 bEnv.locals = none := J6v.free
        rw [cL] at z
        exact z
      obtain ⟨m, hn, _⟩ := J6v.loc
      have hn : u6.heap.Ns bEnv.locals m := hn
      rw [cL] at hn
      exact hEnd D q3s.heap.objs.size u6 m G5 J7v qq hn (J3v.fpOk (Nat.le_refl _) nC)
    · have ti := Tw.item (X.blk q3s G3 scope bEnv pv) rfl rfl rfl hCa i [] u5 _ G5 (fun _ _ => False) J5v (still J5v n5) sA5 goes
      refine thnF ti fun r u6 ⟨u, hr, h6⟩ => ?_
      subst hr
      refine thnF h6 fun _ u7 ⟨x, G7, J7v, r7, y7, sA7, n7⟩ => ?_
      have I7' := J7v.pinned (still J7v n7) (Tw.obj _ _ sA7)
      refine thnF (rTg.run _ u7 _ G7 x u _ I7' r7 (stp x G7 y7)) fun _ u8 ⟨σ8, G8, J8v, hw8, q8⟩ => ?_
      refine thnF (rTs.run _ u8 σ8 G8 _ J8v q8) fun b u9 ⟨G9, J9v, q9⟩ => ?_
      -- the turn's end, from any slots that know what the block knew at its start
      have over : ∀ {σ9 : L2.St} {s' : Shared} {H' : Hp}, Inv (X.blk q3s G3 scope bEnv pv) ([] ++ pinsAt pv u7.heap) σ9 H' s' → (wipe σ (own.map (·.2))).length = σ9.length → (∀ (j : Nat) v, (wipe σ (own.map (·.2)))[j]? = some (some v) → σ9[j]? = some (some v)) → Nw H' →
          ∃ m, m < n ∧ ∃ i H', Inv (X.blk q3s G3 scope bEnv pv) [] (wipe σ (own.map (·.2))) H' s' ∧ tq i s'.heap ∧ (∀ b ∈ pv, H' b = none) ∧ W i m H' := fun {σ9 s' H'} I' hl hk nx => by
        obtain ⟨m', hm, w'⟩ := hNw H' nx
        have pin' : ∀ b ∈ pv, ∀ o, u7.heap.get? b = some o → s'.heap.get? b = some o ∧ H' b = none := fun b hb o e =>
          let z := I'.pin (b, o) (List.mem_append_right _ (List.mem_append_right _ (mem_pinsAt hb e)))
          ⟨z.1, z.2.1⟩
        refine ⟨m', hm, i + 1, H', (I'.unpinned (pins := [])).weak hl hk, Tw.keep _ _ _ sA7 fun b hb o e => (pin' b hb o e).1, fun b hb => ?_, w'⟩
        obtain ⟨o, e, _⟩ := Tw.obj _ _ sA7 b hb
        exact (pin' b hb o e).2
      have ln8 : (wipe σ (own.map (·.2))).length = σ8.length := by rw [← hw8, wipe_length]
      have kp8 : ∀ (j : Nat) v, (wipe σ (own.map (·.2)))[j]? = some (some v) → σ8[j]? = some (some v) := fun j v e => by
        rw [← hw8] at e
        exact (wipe_some e).1
      have kp9 : ∀ (j : Nat) v, (wipe σ (own.map (·.2)))[j]? = some (some v) → (wipe σ8 vsB)[j]? = some (some v) := fun j v e => by
        rw [← hw8] at e
        obtain ⟨ee1, e2⟩ := wipe_some e
        rw [wipe_out fun z => e2 (hOw j z)]
        exact ee1
      cases b with
      | false =>
        simp only [Bool.false_eq_true, if_false] at q9 ⊢
        exact over J9v ln8 kp8 q9
      | true =>
        simp only [if_true] at q9 ⊢
        refine thnF (rIt2.run _ u9 σ8 G9 _ J9v q9) fun xw u10 hx => thnF hx fun itw u11 h11 => ?_
        obtain ⟨itB, pv1, tq1, J1, G11, ee1, J11v, TwB, sA11, fq11, WB, ⟨mB, wB⟩, trn1⟩ := h11
        subst ee1
        -- the inner lpA
        have still1 : ∀ {H' : Hp}, (∀ b ∈ pv1, H' b = none) → ∀ b ∈ pv1, FpOk (X.blk q3s G3 scope bEnv pv) ([] ++ pinsAt pv u7.heap) H' b := fun hn b hb => ⟨hn b hb, (fq11 b hb).2⟩
        have lpB : codeAny (model X.prog X.w) X.A (.compLoop (.DictComp kx vx [⟨tg, iter, ifs, 0⟩, ⟨tgB, iterB, ifsB, 0⟩] scope pos) 1 (.ref itB) (.ref D) bEnv)
            (fun r s' => match r with
              | .ok _ => ∃ m, m < n ∧ ∃ i H', Inv (X.blk q3s G3 scope bEnv pv) [] (wipe σ (own.map (·.2))) H' s' ∧ tq i s'.heap ∧ (∀ b ∈ pv, H' b = none) ∧ W i m H'
              | .error _ => False) u11 := by
          refine compLoopD_in (fun k s' => ∃ j H', Inv (X.blk q3s G3 scope bEnv pv) ([] ++ pinsAt pv u7.heap) (wipe σ8 vsB) H' s' ∧ tq1 j s'.heap ∧ (∀ b ∈ pv1, H' b = none) ∧ WB j k H') ?_ mB ⟨0, G11, J11v.weak (wipe_length _ _) (fun j v e => (wipe_some e).1), sA11, fun b hb => (fq11 b hb).1, wB⟩
          rintro k u12 ⟨j, G12, J12v, sA12, n12, w12⟩
          rcases trn1 j k G12 w12 with ⟨ends1, nx1⟩ | ⟨goes1, NwB, hNwB, stp1⟩
          · refine thnF (TwB.done (X.blk q3s G3 scope bEnv pv) rfl rfl rfl hCa j _ u12 (wipe σ8 vsB) G12 (fun _ _ => False) J12v (still1 n12) sA12 ends1) fun r u13 ⟨hr, J13v⟩ => ?_
            subst hr
            exact over J13v (ln8.trans (wipe_length σ8 vsB).symm) kp9 nx1
          · refine thnF (TwB.item (X.blk q3s G3 scope bEnv pv) rfl rfl rfl hCa j _ u12 (wipe σ8 vsB) G12 (fun _ _ => False) J12v (still1 n12) sA12 goes1) fun r u13 ⟨u1, hr, h13⟩ => ?_
            subst hr
            refine thnF h13 fun _ u14 ⟨x1, G14, J14v, r14, y14, sA14, n14⟩ => ?_
            have I14' := J14v.pinned (still1 n14) (TwB.obj _ _ sA14)
            refine thnF (rTg2.run _ u14 (wipe σ8 vsB) G14 x1 u1 _ I14' r14 (stp1 x1 G14 y14)) fun _ u15 ⟨σ15, G15, J15v, hw15, q15⟩ => ?_
            refine thnF (rTs2.run _ u15 σ15 G15 _ J15v q15) fun b1 u16 ⟨G16, J16v, q16⟩ => ?_
            have over1 : ∀ {s' : Shared} {H' : Hp}, Inv (X.blk q3s G3 scope bEnv pv) (([] ++ pinsAt pv u7.heap) ++ pinsAt pv1 u14.heap) σ15 H' s' → NwB H' → ∃ m, m < k ∧ ∃ j H', Inv (X.blk q3s G3 scope bEnv pv) ([] ++ pinsAt pv u7.heap) (wipe σ8 vsB) H' s' ∧ tq1 j s'.heap ∧ (∀ b ∈ pv1, H' b = none) ∧ WB j m H' := fun {s' H'} I' nx => by
              obtain ⟨m', hm, w'⟩ := hNwB H' nx
              have pin' : ∀ b ∈ pv1, ∀ o, u14.heap.get? b = some o → s'.heap.get? b = some o ∧ H' b = none := fun b hb o e =>
                let z := I'.pin (b, o) (List.mem_append_right _ (List.mem_append_right _ (mem_pinsAt hb e)))
                ⟨z.1, z.2.1⟩
              refine ⟨m', hm, j + 1, H', I'.unpinned.weak (by rw [← hw15, wipe_length]) (fun j v e => by rw [← hw15] at e; exact (wipe_some e).1), TwB.keep _ _ _ sA14 fun b hb o e => (pin' b hb o e).1, fun b hb => ?_, w'⟩
              obtain ⟨o, e, _⟩ := TwB.obj _ _ sA14 b hb
              exact (pin' b hb o e).2
            cases b1 with
            | false =>
              simp only [Bool.false_eq_true, if_false] at q16 ⊢
              exact over1 J16v q16
            | true =>
              simp only [if_true] at q16 ⊢
              refine thnF (rKy.run _ u16 σ15 G16 _ J16v q16) fun z1 u17 ⟨yk, G17, J17v, r17, q17⟩ => ?_
              refine thnF (rVl.run _ u17 σ15 G17 _ J17v q17) fun z2 u18 ⟨yv, G18, J18v, r18, kvs, ky, ek, hD18, hz18, nx⟩ => ?_
              subst ek
              exact d_dictSet (X := X.blk q3s G3 scope bEnv pv) J18v hD18 hz18 r17 r18 fun u19 J19v => over1 J19v nx
        exact compStartD_ok lpB (TwB.self X.A 0 _ _ _ sA11 lpB)
  exact codeAny_compStart_dict lpA (Tw.self X.A 0 _ _ _ sA4 lpA)
/-- as a value -/
theorem pe_dc2 {kx vx tg iter tgB iterB : Expr} {ifs ifsB : List Expr} {scope : Scope} {own : List (Str × Nat)} {vsB : List Nat} {pos : Pos} {wi wiB : TI} {g gB : TG} {tt ttB : TT} {tk tv : TE} (hCa : X.calm = true) (hNd : X.N.Nodup) (hIt : PI X tg iter wi) (okB : BlkOk X.N X.env.scope scope own) (hOw : ∀ i ∈ vsB, i ∈ own.map (·.2))
    (hTg : ∀ (s : Shared) (H : Hp) (C : Addr) (cl : List (Str × Addr)) (pv : List Addr), PG (X.blk s H scope (compEnvC scope cl C X.env) pv) tg g) (hTs : ∀ (s : Shared) (H : Hp) (C : Addr) (cl : List (Str × Addr)) (pv : List Addr), PTs (X.blk s H scope (compEnvC scope cl C X.env) pv) ifs tt)
    (hIt2 : ∀ (s : Shared) (H : Hp) (C : Addr) (cl : List (Str × Addr)) (pv : List Addr), PI (X.blk s H scope (compEnvC scope cl C X.env) pv) tgB iterB wiB)
    (hTg2 : ∀ (s : Shared) (H : Hp) (C : Addr) (cl : List (Str × Addr)) (pv : List Addr), PG (X.blk s H scope (compEnvC scope cl C X.env) pv) tgB gB) (hTs2 : ∀ (s : Shared) (H : Hp) (C : Addr) (cl : List (Str × Addr)) (pv : List Addr), PTs (X.blk s H scope (compEnvC scope cl C X.env) pv) ifsB ttB)
    (hKy : ∀ (s : Shared) (H : Hp) (C : Addr) (cl : List (Str × Addr)) (pv : List Addr), PE (X.blk s H scope (compEnvC scope cl C X.env) pv) kx tk)
    (hVl : ∀ (s : Shared) (H : Hp) (C : Addr) (cl : List (Str × Addr)) (pv : List Addr), PE (X.blk s H scope (compEnvC scope cl C X.env) pv) vx tv) (hFo : ∀ x, foldedSetIterable iter X.env x = pure x := by intro _; rfl) (hFo2 : ∀ env x, foldedSetIterable iterB env x = pure x := by intro _ _; rfl) :
    PE X (.DictComp kx vx [⟨tg, iter, ifs, 0⟩, ⟨tgB, iterB, ifsB, 0⟩] scope pos) (tDc2 wi g tt wiB gB ttB tk tv (own.map (·.2)) vsB) := by
  refine ⟨fun pins s σ H Q J0v hRd => ?_⟩
  rw [arm_eval_DictComp]
  refine dc2_core hCa hNd J0v hIt okB hOw hTg hTs hKy hVl hFo hIt2 hTg2 hTs2 hFo2 hRd fun D C z m H' J' q hn fk => ⟨m, hn, fun hx sb => ?_⟩
  obtain ⟨a0, a1, a2, a3, a4, a5⟩ := fk
  exact ⟨.ref D, H', J'.turned (t' := z.toks) (fun c o hb e => (sb.2 c hb).trans e) a0 a1 a3 a4 a5, rfl, q⟩
theorem ps_setDc2 {i : Nat} {y : Str} {py : Pos} {kx vx tg iter tgB iterB : Expr} {ifs ifsB : List Expr} {scope : Scope} {own : List (Str × Nat)} {vsB : List Nat} {pos spos : Pos} {wi wiB : TI} {g gB : TG} {tt ttB : TT} {tk tv : TE} (hCa : X.calm = true) (hNd : X.N.Nodup) (hy : X.N[i]? = some y) (hyl : X.env.scope.names.lookup y = some .local)
    (hsw : swapsWith (.DictComp kx vx [⟨tg, iter, ifs, 0⟩, ⟨tgB, iterB, ifsB, 0⟩] scope pos) (some (.Name y py)) spos.line X.env = pure true) (hIt : PI X tg iter wi) (okB : BlkOk X.N X.env.scope scope own) (hOw : ∀ i ∈ vsB, i ∈ own.map (·.2))
    (hTg : ∀ (s : Shared) (H : Hp) (C : Addr) (cl : List (Str × Addr)) (pv : List Addr), PG (X.blk s H scope (compEnvC scope cl C X.env) pv) tg g) (hTs : ∀ (s : Shared) (H : Hp) (C : Addr) (cl : List (Str × Addr)) (pv : List Addr), PTs (X.blk s H scope (compEnvC scope cl C X.env) pv) ifs tt)
    (hIt2 : ∀ (s : Shared) (H : Hp) (C : Addr) (cl : List (Str × Addr)) (pv : List Addr), PI (X.blk s H scope (compEnvC scope cl C X.env) pv) tgB iterB wiB)
    (hTg2 : ∀ (s : Shared) (H : Hp) (C : Addr) (cl : List (Str × Addr)) (pv : List Addr), PG (X.blk s H scope (compEnvC scope cl C X.env) pv) tgB gB) (hTs2 : ∀ (s : Shared) (H : Hp) (C : Addr) (cl : List (Str × Addr)) (pv : List Addr), PTs (X.blk s H scope (compEnvC scope cl C X.env) pv) ifsB ttB)
    (hKy : ∀ (s : Shared) (H : Hp) (C : Addr) (cl : List (Str × Addr)) (pv : List Addr), PE (X.blk s H scope (compEnvC scope cl C X.env) pv) kx tk)
    (hVl : ∀ (s : Shared) (H : Hp) (C : Addr) (cl : List (Str × Addr)) (pv : List Addr), PE (X.blk s H scope (compEnvC scope cl C X.env) pv) vx tv) (hFo : ∀ x, foldedSetIterable iter X.env x = pure x := by intro _; rfl) (hFo2 : ∀ env x, foldedSetIterable iterB env x = pure x := by intro _ _; rfl) :
    PS X (.Assign [.Name y py] (.DictComp kx vx [⟨tg, iter, ifs, 0⟩, ⟨tgB, iterB, ifsB, 0⟩] scope pos) spos) (tAsg (tDc2 wi g tt wiB gB ttB tk tv (own.map (·.2)) vsB) (gName i)) := by
  refine ⟨fun pins s σ H D J0v hRd => ?_⟩
  rw [exec_Assign_Name_used _ _ _ _ hsw]
  refine wpAny_bind (wpAny_standAt (wpAny_bind ?_))
  show wpAny _ X.A (do let _ ← comprehension (.DictComp kx vx [⟨tg, iter, ifs, 0⟩, ⟨tgB, iterB, ifsB, 0⟩] scope pos) scope X.env (firstIterPos [⟨tg, iter, ifs, 0⟩, ⟨tgB, iterB, ifsB, 0⟩] pos) newDict false (eval iter X.env) (some (assign (.Name y py) X.env))) _ _ s
  have hRd : tDc2 wi g tt wiB gB ttB tk tv (own.map (·.2)) vsB σ H (fun x G => gName i x σ G D.nx) := hRd
  refine wpAny_bind (thn (dc2_core (Qf := fun _ z => SP X pins D .next z) hCa hNd J0v hIt okB hOw hTg hTs hKy hVl hFo hIt2 hTg2 hTs2 hFo2 hRd fun L C z m H' J' q hn fk => ?_) fun _ z hq => wpAny_pure (wpAny_pure hq))
  show wpAny _ _ (assign (.Name y py) X.env (.ref L)) _ _ _
  refine wpAny_assign_Name (store_ok2 (v := V.ref L) J' hNd hy (.inl hyl) rfl (fun u Ju ⟨a, sb, ha⟩ => ?_) (.inr hyl))
  obtain ⟨a0, a1, a2, a3, a4, a5⟩ := fk
  have haC : C ≠ a := by
    rcases ha with k | k
    · rw [k]; exact a1
    · exact fun e => a4 y a k e.symm
  refine ⟨m, hn.sameBut sb haC, fun hx sbx => ?_⟩
  exact ⟨_, H', Ju.turned (t' := u.toks) (fun c o hb e => (sbx.2 c hb).trans e) a0 a1 a3 a4 a5, q⟩
/-- with one clause, to a name -/
theorem ps_setDc {i : Nat} {y : Str} {py : Pos} {kx vx tg iter : Expr} {ifs : List Expr} {scope : Scope} {own : List (Str × Nat)} {pos spos : Pos} {wi : TI} {g : TG} {tt : TT} {tk tv : TE} (hCa : X.calm = true) (hNd : X.N.Nodup) (hy : X.N[i]? = some y) (hyl : X.env.scope.names.lookup y = some .local)
    (hsw : swapsWith (.DictComp kx vx [⟨tg, iter, ifs, 0⟩] scope pos) (some (.Name y py)) spos.line X.env = pure true) (hIt : PI X tg iter wi) (okB : BlkOk X.N X.env.scope scope own)
    (hTg : ∀ (s : Shared) (H : Hp) (C : Addr) (cl : List (Str × Addr)) (pv : List Addr), PG (X.blk s H scope (compEnvC scope cl C X.env) pv) tg g) (hTs : ∀ (s : Shared) (H : Hp) (C : Addr) (cl : List (Str × Addr)) (pv : List Addr), PTs (X.blk s H scope (compEnvC scope cl C X.env) pv) ifs tt)
    (hKy : ∀ (s : Shared) (H : Hp) (C : Addr) (cl : List (Str × Addr)) (pv : List Addr), PE (X.blk s H scope (compEnvC scope cl C X.env) pv) kx tk)
    (hVl : ∀ (s : Shared) (H : Hp) (C : Addr) (cl : List (Str × Addr)) (pv : List Addr), PE (X.blk s H scope (compEnvC scope cl C X.env) pv) vx tv) (hFo : ∀ x, foldedSetIterable iter X.env x = pure x := by intro _; rfl) :
    PS X (.Assign [.Name y py] (.DictComp kx vx [⟨tg, iter, ifs, 0⟩] scope pos) spos) (tAsg (tDc wi g tt tk tv (own.map (·.2))) (gName i)) := by
  refine ⟨fun pins s σ H D J0v hRd => ?_⟩
  rw [exec_Assign_Name_used _ _ _ _ hsw]
  refine wpAny_bind (wpAny_standAt (wpAny_bind ?_))
  show wpAny _ X.A (do let _ ← comprehension (.DictComp kx vx [⟨tg, iter, ifs, 0⟩] scope pos) scope X.env (firstIterPos [⟨tg, iter, ifs, 0⟩] pos) newDict false (eval iter X.env) (some (assign (.Name y py) X.env))) _ _ s
  have hRd : tDc wi g tt tk tv (own.map (·.2)) σ H (fun x G => gName i x σ G D.nx) := hRd
  refine wpAny_bind (thn (dc_core (Qf := fun _ z => SP X pins D .next z) hCa hNd J0v hIt okB hTg hTs hKy hVl hFo hRd fun L C z m H' J' q hn fk => ?_) fun _ z hq => wpAny_pure (wpAny_pure hq))
  show wpAny _ _ (assign (.Name y py) X.env (.ref L)) _ _ _
  refine wpAny_assign_Name (store_ok2 (v := V.ref L) J' hNd hy (.inl hyl) rfl (fun u Ju ⟨a, sb, ha⟩ => ?_) (.inr hyl))
  obtain ⟨a0, a1, a2, a3, a4, a5⟩ := fk
  have haC : C ≠ a := by
    rcases ha with k | k
    · rw [k]; exact a1
    · exact fun e => a4 y a k e.symm
  refine ⟨m, hn.sameBut sb haC, fun hx sbx => ?_⟩
  exact ⟨_, H', Ju.turned (t' := u.toks) (fun c o hb e => (sbx.2 c hb).trans e) a0 a1 a3 a4 a5, q⟩
theorem sw_trueD {kx vx : Expr} {gs : List Comprehension} {scope : Scope} {pos py : Pos} {y : Str} {l : Nat} {env : Env} (hk : env.scope.kind = .function) (hy : env.scope.names.lookup y = some .local) (hl : (py.line == pos.line) = true)
    (hno : (scope.names.any fun (n, k) => n == y && (k == .local || k == .cell)) = false) : swapsWith (.DictComp kx vx gs scope pos) (some (.Name y py)) l env = pure true := by
  have hkind : env.kindOf y = some .local := hy
  have hblk : env.blockKind = .function := by unfold Env.blockKind; rw [hk]; rfl
  unfold swapsWith
  simp only [hblk, hkind, hno, Expr.pos, hl]
  rfl
end
end Dq
set_option Elab.async false
set_option linter.all false
set_option maxRecDepth 100000
set_option maxHeartbeats 2000000
/-! errors of an own class nm whose __init__ stores its one argument as fl, over ValueError or own classes over it -/
namespace PySem
namespace Er
open PySem.W PySem.Calls PyProof.Rows PySem.HandSPX
def eA (fl : Str) (p1 p2 : Pos) : Arguments := { posonlyargs := [], args := [{ arg := "self", annotation := none, pos := p1 }, { arg := fl, annotation := none, pos := p2 }], vararg := none, kwonlyargs := [], kw_defaults := [], kwarg := none, defaults := [] }
def eB (fl : Str) (q1 q2 q3 q4 : Pos) : List Stmt := [.Assign [.Attribute (.Name "self" q1) fl q2] (.Name fl q3) q4]
def eS (fl : Str) : Scope := { kind := .function, names := [(PySem.Str.ofString "self", .local), (fl, .local)], isGenerator := false, isCoroutine := false, more := [] }
/-- what the name fl must be good for -/
structure FlOk (fl : Str) : Prop where
  bnd : ∀ (qn : Str) (doc pm : Value) (an : Option Addr) (cdv ct : Value) (p1 p2 q1 q2 q3 q4 : Pos) (x v : Value), bindArgs (fnOf "__init__" qn (eA fl p1 p2) (eB fl q1 q2 q3 q4) (eS fl) .none .none doc pm an cdv ct) ⟨[x, v], []⟩ = pure [(("self" : Str), x), (fl, v)]
  kd : ∀ x v : Value, (([(("self" : Str), x), (fl, v)] : List (Str × Value)).all fun y => (eS fl).names.lookup y.1 == some NameKind.local || (eS fl).names.lookup y.1 == some NameKind.cell) = true
  l1 : (eS fl).names.lookup ("self" : Str) = some NameKind.local
  l2 : (eS fl).names.lookup fl = some NameKind.local
  b1 : ∀ (qn : Str) (L f : Addr) (cdv x v : Value), bindL (envOfC qn (eS fl) L f cdv).kindOf [(("self" : Str), x), (fl, v)] (fun _ => none) ("self" : Str) = some x
  b2 : ∀ (qn : Str) (L f : Addr) (cdv x v : Value), bindL (envOfC qn (eS fl) L f cdv).kindOf [(("self" : Str), x), (fl, v)] (fun _ => none) fl = some v
  dbg : (fl == ("__debug__" : Str)) = false
/-- the class nm at C, its __init__ at fI, its field fl -/
structure ErT (K : Frag) (mg : Str → Option Value) (nm fl : Str) (C fI : Addr) : Prop where
  gC : mg nm = some (.ref C)
  fo : FlOk fl
  cls : ∃ n1 q N bs bm sn sub ab col dd k0 k1 k2 k3 k5, K.lookup C = some (excClassObj n1 q C N bs bm true sn sub ab col dd k0 k1 k2 k3 k5 "ValueError.__new__") ∧ refsVE bm = true
  sa : findIn K (.ref C) "__setattr__" = some (some (.builtin "object.__setattr__"))
  ga : findIn K (.ref C) "__getattribute__" = some (some (.builtin "BaseException.__getattribute__"))
  gg : findIn K (.ref C) "__getattr__" = some none
  noN : findIn K (.ref C) fl = some none
  iC : findIn K (.ref C) "__init__" = some (some (.ref fI))
  tC : typeIn K (.ref fI) = some (.type "function")
  kC : keepIn K (.ref C) = true
  exC : subIn K (.ref C) (.type "BaseException") = some true
  tyC : typeIn K (.ref C) = some (.type "type")
  hdC : hasDictIn K C = true
  te : exmOne K (.ref C) (.ref C) = some true
  fn : ∃ (oc : Value) (od : Option Addr) (doc pm : Value) (an : Option Addr) (cdv ct : Value) (osl : Array (Option Value)) (p1 p2 q1 q2 q3 q4 : Pos) (qn : Str),
    K.lookup fI = some ⟨oc, od, .func (fnOf "__init__" qn (eA fl p1 p2) (eB fl q1 q2 q3 q4) (eS fl) .none .none doc pm an cdv ct), osl⟩ ∧ codeIn K cdv qn = true
theorem args1 (v : Value) : [v].length ≤ sizeLine := by
  rw [sizeLine_eq]
  exact (by decide : 1 ≤ 16777216)
/-- a local, read in a def's frame -/
theorem ld_loc {M : Model} {s : Shared} {name : Str} {scope : Scope} {L a : Addr} {cd : Value} {m : Str → Option Value} {x : Str} {pos : Pos} {v : Value} {Q : Value → Shared → Prop} {A : Around} {E : Value → Shared → Prop} (hn : s.heap.Ns L m) (hv : m x = some v) (h : Q v s)
    (hk : scope.kind = .function) (hl : scope.names.lookup x = some .local) (hd : (x == ("__debug__" : Str)) = false) :
    wpAny M A (eval (.Name x pos) (envOfC name scope L a cd)) Q E s := wpAny_Name (wpAny_loadName_local hk hl hn hv h) hd
/-- behind __init__ -/
structure EndI (h h' : Heap) (x C dx t1 : Addr) (fl : Str) (v : Value) : Prop where
  keep : ∀ b o, b ≠ x → h.get? b = some o → h'.get? b = some o
  obj : h'.get? x = some { cls := .ref C, dict := some dx, data := .fields #[.ref t1, .none, .none, .none, .bool false, .none] }
  dbig : h.objs.size ≤ dx
  dne : dx ≠ x
  ns : h'.Ns1 dx (fun y => if y = fl then some v else none)
/-- a made one -/
structure Made (h h' : Heap) (e C d : Addr) (fl : Str) (v : Value) : Prop where
  keep : ∀ b o, h.get? b = some o → h'.get? b = some o
  new : h.objs.size ≤ e
  obj : ∃ oe vs, h'.get? e = some oe ∧ oe.cls = .ref C ∧ oe.dict = some d ∧ oe.data = .fields vs ∧ vs[1]? = some .none
  dbig : h.objs.size ≤ d
  dne : d ≠ e
  ns : h'.Ns1 d (fun y => if y = fl then some v else none)
section
variable {prog : Program} {w : World} {A : Around} {E : Value → Shared → Prop} {R : Result → Shared → Prop} {s : Shared} {K : Frag} {mg : Str → Option Value} {nm fl : Str} {C fI : Addr}
theorem er_init (T : ErT K mg nm fl C fI) {x t0 : Addr} {v : Value} (X : K.In s.heap) (hlim : s.heap.NoLimit) (hx : s.heap.get? x = some (excO C t0)) (hnx : K.lookup x = none) (hroom : A.depth < recursionLimit)
    (hq : ∀ h' tk dx, EndI s.heap h' x C dx t0 fl v → R (.ok (.ret .none)) { s with heap := h', toks := tk }) :
    codeAny (model prog w) A (.call (.ref fI) ⟨[.ref x, v], []⟩) R s := by
  obtain ⟨oc, od, doc, pm, an, cdv, ct, osl, p1, p2, q1, q2, q3, q4, qn, ho, hcd⟩ := T.fn
  obtain ⟨n1, q, N, bs, bm, sn, sub, ab, col, dd, k0, k1, k2, k3, k5, hC, hbm⟩ := T.cls
  have hcl : clsIn K C = some { name := n1, bases := bs, mro := .ref C :: bm, ns := N, qualname := q, hasDict := true, slotNames := sn, subclasses := sub, abstract := ab, collection := col, hasDel := false } := by unfold clsIn; rw [hC]
  refine Att.call_fn (binds := [(("self" : Str), .ref x), (fl, v)]) X hlim ho hcd hroom (BindsTo.of_eq ?gb) ?gl (fun s₁ IC => ?_) rfl rfl rfl
  case gb => exact T.fo.bnd qn doc pm an cdv ct p1 p2 q1 q2 q3 q4 (.ref x) v
  case gl => exact T.fo.kd (.ref x) v
  obtain ⟨h₁, tk₁, rfl⟩ := IC.toInCall.same
  have k : ∀ b o, s.heap.get? b = some o → h₁.get? b = some o := IC.toInCall.keep
  have hn := IC.toInCall.ns
  have X₁ : K.In h₁ := X.keeps k
  have hx₁ := k _ _ hx
  show wpAny _ _ (execs _ _) _ _ _
  refine wpAny_execs_cons (plainObj_wpAny_Assign_Attribute ?_)
  refine ld_loc (v := v) hn (T.fo.b2 qn _ fI cdv (.ref x) v) (ld_loc (v := .ref x) hn (T.fo.b1 qn _ fI cdv (.ref x) v) ?_ rfl T.fo.l1 (by decide)) rfl T.fo.l2 T.fo.dbg
  refine set_plain X₁ (ox := excO C t0) (od := none) ⟨hx₁, rfl, rfl, trivial⟩ T.sa ?_
  refine exc_osa X₁ hx₁ hcl (show refsVE (.ref C :: bm) = true from hbm) rfl T.noN (fun h₃ tk₃ dx k₃ dn dne hx₃ hn₃ => ?_)
  show wpAny _ _ (execs _ _) _ _ _
  have z : s.heap.objs.size < h₁.objs.size := hn.lt
  exact wpAny_execs_nil (hq h₃ tk₃ dx ⟨fun b o hb e => k₃ b o hb (k b o e), hx₃, Nat.le_of_lt (Nat.lt_of_lt_of_le z dn), dne, hn₃⟩)
theorem er_made (T : ErT K mg nm fl C fI) {v : Value} (X : K.In s.heap) (hlim : s.heap.NoLimit) (hroom : A.depth + 1 < recursionLimit)
    (hq : ∀ h' tk e d, Made s.heap h' e C d fl v → R (.ok (.ret (.ref e))) { s with heap := h', toks := tk }) :
    codeAny (model prog w) A (.call (.ref C) ⟨[v], []⟩) R s := by
  obtain ⟨n1, q, N, bs, bm, sn, sub, ab, col, dd, k0, k1, k2, k3, k5, hC, hbm⟩ := T.cls
  obtain ⟨hp, g, dr, tk, os⟩ := s
  have k : ∀ b o, hp.get? b = some o → ((hp.push (kdv_tup [v])).push (excO C hp.objs.size)).get? b = some o := fun b o e => Heap.get?_push_of_some _ (Heap.get?_push_of_some _ e)
  have hget : ((hp.push (kdv_tup [v])).push (excO C hp.objs.size)).get? (hp.objs.size + 1) = some (excO C hp.objs.size) := by heap_get
  have hnx : K.lookup (hp.objs.size + 1) = none := by
    cases e : K.lookup (hp.objs.size + 1) with
    | none => rfl
    | some o => exact absurd (Nat.lt_of_succ_lt (Heap.lt_size (show hp.get? (hp.objs.size + 1) = some o from X _ _ e))) (Nat.lt_irrefl _)
  refine call_own F.excBase_ValueError (fun X => refsVE_contains X bm hbm) (X _ _ hC) (looks_findIn X T.iC) (fun self => bind_fn X self T.tC) (args1 v) ?_
  refine er_init (s := ⟨(hp.push (kdv_tup [v])).push (excO C hp.objs.size), g, dr, tk, os⟩) T (X.keeps k) (hlim.keeps k) hget hnx hroom fun h' tk' dx M => ?_
  obtain ⟨k', hx, dn, dne, hns⟩ := M
  have z : hp.objs.size + 1 + 1 ≤ dx := by
    have q := dn
    rw [Heap.size_push, Heap.size_push] at q
    exact q
  exact ⟨rfl, hq h' tk' (hp.objs.size + 1) dx ⟨fun b o e => k' b o (Nat.ne_of_lt (Nat.lt_succ_of_lt (Heap.lt_size e))) (k b o e), Nat.le_succ _, ⟨_, _, hx, rfl, rfl, rfl, rfl⟩, Nat.le_trans (Nat.le_trans (Nat.le_succ _) (Nat.le_succ _)) z, dne, hns⟩⟩
end
theorem flOk_limit : FlOk "limit" := ⟨fun _ _ _ _ _ _ _ _ _ _ _ _ _ _ => by with_unfolding_all rfl, fun _ _ => by with_unfolding_all rfl, by decide +kernel, by decide +kernel, fun _ _ _ _ _ _ => by first | rfl | with_unfolding_all rfl | kernel_rfl, fun _ _ _ _ _ _ => by first | rfl | with_unfolding_all rfl | kernel_rfl, by decide⟩
theorem flOk_reason : FlOk "reason" := ⟨fun _ _ _ _ _ _ _ _ _ _ _ _ _ _ => by with_unfolding_all rfl, fun _ _ => by with_unfolding_all rfl, by decide +kernel, by decide +kernel, fun _ _ _ _ _ _ => by first | rfl | with_unfolding_all rfl | kernel_rfl, fun _ _ _ _ _ _ => by first | rfl | with_unfolding_all rfl | kernel_rfl, by decide⟩
end Er
end PySem
namespace Gx
open PySem PySem.Spec PyProof.Rows L2 PySem.Er
theorem relO_fld {fl : Str} {v : V} {v' : Value} (r : RelV v v') (f : Str) : RelO (List.lookup f [(fl, v)]) (if f = fl then some v' else none) := by
  by_cases h : f = fl
  · rw [if_pos h, h, show List.lookup fl [(fl, v)] = some v by simp [List.lookup]]
    exact r
  · have q : (f == fl) = false := by simpa using h
    rw [if_neg h, show List.lookup f [(fl, v)] = none by simp [List.lookup, q]]
    trivial
section
variable {X : Cx} {C fI : Addr} {nm fl : Str}
/-- nm(e) -/
def tMkEr (C : Addr) (fl : Str) (ta : TA) : L2.St → Hp → XK → Prop := fun σ H Q => ta σ H fun vs H1 => ∃ v, vs = [v] ∧ ∀ d, H1 d = none → Q (.ref C) (some d) (upd H1 d (.xd [(fl, v)]))
theorem pmk_er {a : Expr} {ta : TA} {p pos : Pos} {k : Nat} (T : ErT X.K X.mg nm fl C fI) (hr : Room k X.A) (ha : PA X [a] ta) (hg : Gl X nm) (hdb : (nm == ("__debug__" : Str)) = false := by decide)
    (he : starEach (a :: []) X.env = (false, eval a X.env) :: starEach [] X.env := by rfl) (hpl : (backTo pos (starEach [] X.env)).any (·.1) = false := by rfl) :
    PMk X (.Call (.Name nm p) [a] [] pos) (tMkEr C fl ta) := by
  intro pins s σ H Q I h
  refine wpAny_Call_Name_kw (ld_glob I hg T.gC ?_ hdb)
  refine PySem.W.callWith_K (h₀ := X.base) I.ok.mod.kin T.kC (thn (ha.run pos pins s σ H _ I h) fun us s1 hh => ?_) he hpl
  obtain ⟨vs, H1, I1, r1, v, ev, q1⟩ := hh
  subst ev
  refine ⟨I1.kIn, ?_⟩
  cases r1 with
  | cons rv rn =>
    rename_i v' us'
    cases rn
    show wpAny _ _ (call (.ref C) [v']) _ _ _
    have hlim := I1.nolimit
    obtain ⟨hp, g, dr, tk, os⟩ := s1
    refine wpAny_call (er_made T I1.kIn hlim (by have := hr.dp; omega) fun h' tk' e d M => ?_)
    show MkP X pins σ Q (.ref e) ⟨h', g, dr, tk', os⟩
    obtain ⟨oe, fv, hoe, hc, hd, hdat, h1⟩ := M.obj
    have hns := M.ns
    obtain ⟨G', g1, g2⟩ := restrict h' fun b => decide (b ≠ e)
    have gk : ∀ b, b ≠ e → G'.get? b = h'.get? b := fun b hb => g1 b (decide_eq_true hb)
    have ge : G'.get? e = none := g2 e (by simp)
    have old : ∀ b o, hp.get? b = some o → G'.get? b = some o := fun b o q => (gk b (Nat.ne_of_lt (Nat.lt_of_lt_of_le (Heap.lt_size q) M.new))).trans (M.keep b o q)
    have ob : ObjOk X.prog X.w (upd H1 d (.xd [(fl, v)])) G' d (.xd [(fl, v)]) := ⟨_, hns.at (fun o q => (gk d M.dne).trans q), fun f => relO_fld rv f⟩
    have J : Inv X pins σ (upd H1 d (.xd [(fl, v)])) ⟨G', g, dr, tk', os⟩ := I1.laid (t' := tk') old M.dbig ob
    refine ⟨e, oe, fv, ⟨G', g, dr, tk', os⟩, _, .ref C, some d, rfl, J, fun b o q => ?_, ge, hoe, ⟨hc, hd⟩, hdat, h1, ?_, rfl, I1.bare, raises_own T.exC T.tyC, q1 d (I1.hok.fresh M.dbig)⟩
    · have hb : b ≠ e := fun hb => by
        have q' : G'.get? b = some o := q
        rw [hb, ge] at q'
        cases q'
      exact (gk b hb).symm.trans q
    · rw [upd_ne (Ne.symm M.dne)]
      exact I1.hok.fresh M.new
/-- raise nm(e) -/
def tRaiseEr (C : Addr) (fl : Str) (W : WX) (ta : TA) : TS := fun _ σ H => tMkEr C fl ta σ H fun cls d H' => W cls d σ H'
theorem ps_raiseEr {a : Expr} {ta : TA} {W : WX} {p pos pos2 : Pos} {k : Nat} (hc : X.calm = true) (T : ErT X.K X.mg nm fl C fI) (hr : Room k X.A) (tk : Takes X W) (ha : PA X [a] ta) (hg : Gl X nm) (hdb : (nm == ("__debug__" : Str)) = false := by decide)
    (he : starEach (a :: []) X.env = (false, eval a X.env) :: starEach [] X.env := by rfl) (hpl : (backTo pos (starEach [] X.env)).any (·.1) = false := by rfl) :
    PS X (.Raise (some (.Call (.Name nm p) [a] [] pos)) none pos2) (tRaiseEr C fl W ta) := ps_raise hc tk (pmk_er T hr ha hg hdb he hpl)
/-- e.fl, e the error that the suite holds (at a; its class, its dict) -/
def tErFld (C : Addr) (fl : Str) (a : Addr) (cls : Value) (d : Option Addr) (te : TE) : TE := fun σ H Q => te σ H fun x H1 => x = .ref a ∧ cls = .ref C ∧ ∃ (dd : Addr) (v : V), d = some dd ∧ H1 dd = some (.xd [(fl, v)]) ∧ Q v H1
theorem pe_erFld {a : Addr} {oe : Obj} {cls : Value} {d : Option Addr} {pn : List (Addr × Obj)} {e : Expr} {te : TE} {pos : Pos} (T : ErT X.K X.mg nm fl C fI) (hz : Zc cls d oe) (hf : ∃ vs, oe.data = .fields vs) (he : PE (X.suite a ((a, oe) :: pn)) e te)
    (hb : attributeBase e fl X.env (eval e X.env) = eval e X.env := by rfl) :
    PE (X.suite a ((a, oe) :: pn)) (.Attribute e fl pos) (tErFld C fl a cls d te) := by
  refine ⟨fun pins s σ H Q I h => ?_⟩
  refine attr_of hb (thn (he.run pins s σ H _ I h) fun u s1 hh => ?_)
  obtain ⟨x, H1, I1, rx, rfl, rfl, dd, v, rfl, ea, q⟩ := hh
  obtain rfl : u = Value.ref a := rx
  obtain ⟨ha, _⟩ := I1.pin (a, oe) (List.mem_append_left _ List.mem_cons_self)
  obtain ⟨vs, hd⟩ := hf
  obtain ⟨mA, hns, hr⟩ := (show ObjOk X.prog X.w H1 s1.heap dd (.xd [(fl, v)]) from I1.hok dd _ ea)
  obtain ⟨od, ho, hl⟩ := lookIn_ns hns
  obtain ⟨u, hu, ru⟩ := RelO.some_of (v := v) (o := mA fl) (by
    have q := hr fl
    rw [show List.lookup fl [(fl, v)] = some v by simp [List.lookup]] at q
    exact q)
  have J : PySem.W.InstAt s1.heap a oe C (some od) := ⟨ha, hz.1, by unfold PySem.W.notCls; rw [hd], by rw [hz.2]; exact ho⟩
  exact HandSPX.exc_get I1.kIn J T.ga T.gg T.exC (PySem.W.findObj_own T.hdC T.noN rfl (by rw [hl, hu])) (handed_of ru) ⟨v, H1, I1.tok _, ru, q⟩
/-- what the class says, so that isinstance asks its errors rightly -/
structure ErI (K : PySem.W.Frag) (D : Addr) : Prop where
  cl : (PySem.W.clsIn K D).isSome = true
  ha : PySem.W.findIn K (.ref D) "__class__" = some (some (.builtin "object.__class__"))
  hn : PySem.W.specialIn K (.builtin "object.__class__") "__get__" = some (some (.builtin "getset_descriptor.__get__"))
  ht : PySem.W.takesIn K (.builtin "object.__class__") = some true
  hm : PySem.W.mroIn K D (.type "object") = some true
/-- isinstance(e, c), e the error that the suite holds -/
def rIsEr (K : PySem.W.Frag) (D a : Addr) (cls : Value) (d : Option Addr) : List V → Hp → VK → Prop := fun xs H Q => cls = .ref D ∧ ∃ (c : V) (cv : Value) (b : Bool) (dd : Addr) (fs : List (Str × V)), xs = [.ref a, c] ∧ (∀ u, RelV c u → u = cv) ∧ d = some dd ∧ H dd = some (.xd fs) ∧ PySem.W.kitOne K (.ref D) cv = some b ∧ Q (.bl b) H
theorem call_isEr {a : Addr} {oe : Obj} {cls : Value} {d : Option Addr} {pn : List (Addr × Obj)} (T : ErT X.K X.mg nm fl C fI) (Ti : ErI X.K C) (hz : Zc cls d oe) (hf : ∃ vs, oe.data = .fields vs) : CallR (X.suite a ((a, oe) :: pn)) (.builtin "isinstance") (rIsEr X.K C a cls d) := by
  intro pins s σ H xs us Q I r h
  obtain ⟨rfl, c, cv, b, dd, fs, rfl, hcv, rfl, ea, e, q⟩ := h
  obtain ⟨u1, u2, rfl, r1, r2⟩ := vals2 r
  have ec := hcv _ r2
  subst ec
  obtain rfl : u1 = Value.ref a := r1
  obtain ⟨ha, _⟩ := I.pin (a, oe) (List.mem_append_left _ List.mem_cons_self)
  obtain ⟨vs, hd⟩ := hf
  obtain ⟨mA, hns, _⟩ := (show ObjOk X.prog X.w H s.heap dd (.xd fs) from I.hok dd _ ea)
  obtain ⟨od, ho, hl⟩ := lookIn_ns hns
  have J : PySem.W.InstAt s.heap a oe C (some od) := ⟨ha, hz.1, by unfold PySem.W.notCls; rw [hd], by rw [hz.2]; exact ho⟩
  exact PySem.W.kia_one (PySem.W.kitx_exc Ti.cl T.ga T.gg T.exC Ti.ha Ti.hn Ti.ht Ti.hm) I.kIn J e (fun z => nomatch z) fun tk => ⟨.bl b, H, I.kept (t' := tk) fun _ _ z => z, rfl, q⟩
end
end Gx
set_option Elab.async false
set_option linter.all false
set_option maxRecDepth 100000
set_option maxHeartbeats 2000000
/-! several except clauses, each with a name of its own or without one; C(..) in a try; defs that raise, whose code object is known -/
namespace Gx
open PySem PySem.Spec PyProof.Rows L2
/-- a clause: the class, the slot of its name (if it has one), what its suite wishes -/
abbrev Cls1 := Value × Option Nat × (Addr → Value → Option Addr → TS)
/-- the ends of a suite whose name is in slot i -/
def endsA (D : Ends) (i : Nat) : Ends := { nx := fun σ' H' => D.nx (σ'.set i none) H', rt := D.rt, bk := fun σ' H' => D.bk (σ'.set i none) H', ct := fun σ' H' => D.ct (σ'.set i none) H' }
def suiteA (o : Option Nat) (ts : Addr → Value → Option Addr → TS) (a : Addr) (cls : Value) (d : Option Addr) (D : Ends) (σ : L2.St) (H : Hp) : Prop := match o with
  | some i => ts a cls d (endsA D i) (σ.set i (some (.ref a))) H
  | none => ts a cls d D σ H
def wClauses (K : PySem.W.Frag) (Wout : WX) (D : Ends) : List Cls1 → WX
  | [] => Wout
  | c :: r => fun cls d σ H => ∃ b, PySem.W.exmOne K cls c.1 = some b ∧ (b = true → ∀ a, H a = none → suiteA c.2.1 c.2.2 a cls d D σ H) ∧ (b = false → wClauses K Wout D r cls d σ H)
inductive Clauses (X : Cx) : List ExceptHandler → List Cls1 → Prop
  | nil : Clauses X [] []
  | as_ {x n : Str} {c : Value} {i : Nat} {ts : Addr → Value → Option Addr → TS} {b₀ : Stmt} {suite : List Stmt} {np pos' : Pos} {hds : List ExceptHandler} {l : List Cls1} (hi : X.N[i]? = some n) (hln : X.env.kindOf n = some .local) (hc : Names X x c)
      (hsu : ∀ (a : Addr) (oe : Obj) (cls : Value) (d : Option Addr) (pn : List (Addr × Obj)), Zc cls d oe → (∃ vs, oe.data = .fields vs) → PSs (X.suite a ((a, oe) :: pn)) (b₀ :: suite) (ts a cls d)) (r : Clauses X hds l) :
      Clauses X (.ExceptHandler (some (.Name x np)) (some n) (b₀ :: suite) pos' :: hds) ((c, some i, ts) :: l)
  | no_ {x : Str} {c : Value} {ts : Addr → Value → Option Addr → TS} {b₀ : Stmt} {suite : List Stmt} {np pos' : Pos} {hds : List ExceptHandler} {l : List Cls1} (hc : Names X x c)
      (hsu : ∀ (a : Addr) (oe : Obj) (cls : Value) (d : Option Addr) (pn : List (Addr × Obj)), Zc cls d oe → (∃ vs, oe.data = .fields vs) → PSs (X.suite a ((a, oe) :: pn)) (b₀ :: suite) (ts a cls d)) (r : Clauses X hds l) :
      Clauses X (.ExceptHandler (some (.Name x np)) none (b₀ :: suite) pos' :: hds) ((c, none, ts) :: l)
section
variable {X : Cx} {body : List Stmt} {h₀ : ExceptHandler} {hds : List ExceptHandler} {l : List Cls1} {pos : Pos} {tb : WX → TS} {Wout : WX}
/-- the body's reading, what it raises wished by the clauses in their order -/
def tTryC (K : PySem.W.Frag) (Wout : WX) (l : List Cls1) (tb : WX → TS) : TS := fun D σ H => tb (wClauses K Wout D l) D σ H
theorem ps_tryC (hs : X.stack = X.env :: X.outer) (hf : X.env.frame = some X.env.locals) (hN : X.N.Nodup) (tk : Takes X Wout)
    (hb : ∀ (W : WX) (pn : List (Addr × Obj)) (xe : Value → Shared → Prop), Takes (X.tr pn xe) W → PassesOwn (model X.prog X.w) X.A X.env xe → PSs (X.tr pn xe) body (tb W))
    (hh : Clauses X (h₀ :: hds) l) : PS X (.Try body (h₀ :: hds) [] [] pos) (tTryC X.K Wout l tb) := by
  refine ⟨fun pins s σ H D I h => ?_⟩
  have ok := I.ok
  have hfr : X.A.frames = some (X.env :: X.outer) := by rw [ok.frames, hs]
  refine wpAny_Try_except ?_
  refine wpAny_mono ((hb (wClauses X.K Wout D l) (X.pn ++ pins) (fun e s₁ => wpAny (model X.prog X.w) X.A (noteFrame e X.env) (fun _ s₂ => wpAny (model X.prog X.w) X.A (setFlight e none) (fun _ s₃ =>
    wpAny (model X.prog X.w) X.A (handleBy e X.env (h₀ :: hds)) (SP X pins D) X.xe s₃) X.xe s₂) X.xe s₁) (fun u s' xx => ?_) PassesOwn.looking).run [] s σ H D (I.toTry _) h) (fun f s1 hsp => ?_) (fun e s1 he => he)
  · obtain ⟨a, B, sI, pins', σ', H', cls, d, rfl, J', nb, up, sky, na, os, ag, wish⟩ := xx
    have J : Inv X pins σ' H' sI := J'.ofTry ok
    have sky' : Sky B (X.env :: X.outer) a (Zc cls d) X.env.locals s'.heap := by rw [← hs]; exact sky
    show wpAny (model X.prog X.w) X.A (noteFrame (.ref a) X.env) _ _ _
    refine Sky.land Zc.steady hfr hf sky' fun h3 fl3 up3 => ?_
    have J3 : Inv X pins σ' H' { s' with heap := h3 } := J.landed nb fl3.1 (up.trans up3) os ag
    obtain ⟨oe3, vs3, he3, hz3, hd3⟩ := fl3.there
    have nfr : a ∉ frs (X.env :: X.outer) := fun hm => by
      obtain ⟨_, o', e', hnf⟩ := fl3.2.2.1.mem hm
      rw [he3] at e'
      cases e'
      exact hnf _ hd3
    have nL : a ≠ X.env.locals := fun z => nfr (List.mem_filterMap.mpr ⟨X.env, List.mem_cons_self, by rw [hf, z]⟩)
    have nF : a ∉ X.fs := fun hm => by
      obtain ⟨e, he, q⟩ := List.mem_filterMap.mp hm
      exact nfr (List.mem_filterMap.mpr ⟨e, List.mem_cons_of_mem _ he, q⟩)
    have S3 := J3.suite he3 hd3 na nL nF
    have LT : PySem.W.Looks (model X.prog X.w) h3 (typeOf (.ref a)) cls := fun A Q E s k q => wpAny_typeOf_ref (k _ _ he3) (by rw [hz3.1]; exact q)
    have test : ∀ {x : Str} {np : Pos} {c : Value} {Q : Value → Shared → Prop} {E : Value → Shared → Prop}, Names X x c → Q c { s' with heap := h3 } → wpAny (model X.prog X.w) (X.A.mark (some (.ref a))) (eval (.Name x np) X.env) Q E { s' with heap := h3 } := fun {x np c Q E} hc q => by
      obtain ⟨hg, hdbg, hm | ⟨hm, hv, hnn⟩⟩ := hc
      · exact ld_glob (X := X.suite a ((a, oe3) :: (X.pn ++ pins))) S3 hg hm q hdbg
      · exact ld_blt (X := X.suite a ((a, oe3) :: (X.pn ++ pins))) S3 hg hm hv q hnn hdbg
    have go : ∀ {hds' : List ExceptHandler} {l' : List Cls1}, Clauses X hds' l' → wClauses X.K Wout D l' cls d σ' H' →
        wpAny (model X.prog X.w) X.A (handleBy (.ref a) X.env hds') (SP X pins D) X.xe { s' with heap := h3 } := by
      intro hds' l' hk
      induction hk with
      | nil =>
        intro wish
        refine wpAny_handleBy_nil ?_
        obtain ⟨k1, k2, k3, oe, vs, T, oT, ts', he, hz, hd, h1, hr⟩ := id fl3
        unfold PySem.passOn
        refine wpAny_bind (wpAny_field he hd h1 ?_)
        rw [if_neg (show ¬ ((Value.ref T == Value.none) = true) from by simp)]
        have fin : wpAny (model X.prog X.w) X.A (setFlight (.ref a) X.env.frame) (fun _ s4 => wpAny (model X.prog X.w) X.A (throw (.ref a) : Sem Flow) (SP X pins D) X.xe s4) X.xe { s' with heap := h3 } := by
          rw [hf]
          refine HandSPX.setFlight_upZ fl3 fun h4 hh4 up4 => wpAny_throw (tk _ _ ?_)
          exact ⟨a, B, sI, pins, σ', H', cls, d, rfl, J, nb, (up.trans up3).trans up4, .inr (.inr (by rw [hs]; exact hh4)), na, os, ag, wish⟩
        first
          | exact wpAny_bind (wpAny_pure (wpAny_bind fin))
          | exact wpAny_bind fin
      | @as_ x n c i ts b₀ suite np pos' hds2 l2 hi hln hc hsu r ih =>
        rintro ⟨b, hb1, hyes, hno⟩
        refine wpAny_handleBy_cons (codeAny_handlers_test ?_) (by intro q; cases q)
        refine test hc ((PySem.W.exm_one (M := model X.prog X.w) (J3.kIn) LT hb1).here ?_)
        cases b with
        | true =>
          refine codeAny_handlers_suite_as ?_
          refine HandSPX.lands_againZ fl3 fun h4 fl4 up4 => ?_
          have J4 : Inv X pins σ' H' { s' with heap := h4 } := J.landed nb fl4.1 ((up.trans up3).trans up4) os ag
          obtain ⟨oe4, vs4, he4, hz4, hd4⟩ := fl4.there
          have S4 := J4.suite he4 hd4 na nL nF
          refine store_ok (X := X.suite a ((a, oe4) :: (X.pn ++ pins))) (v := .ref a) S4 hN hi (.inl hln) rfl (fun s5 S5 => ?_) (.inr hln)
          refine wpAny_mono ((hsu a oe4 cls d (X.pn ++ pins) hz4 ⟨_, hd4⟩).run [] s5 _ H' _ S5 (hyes rfl a na)) (fun f s6 hsp => ?_) (fun _ _ z => False.elim z)
          have end_ : ∀ {σ6 : L2.St} {H6 : Hp} {Q : Shared → Prop}, Inv (X.suite a ((a, oe4) :: (X.pn ++ pins))) [] σ6 H6 s6 → (∀ s7, Inv X pins (σ6.set i none) H6 s7 → Q s7) →
              wpAny (model X.prog X.w) X.A (do bindName X.env n .none; unbindBehindTheSuite X.env n pos') (fun _ s7 => Q s7) X.xe s6 := fun S6 hq => gone_ok (S6.unsuite ok) hN hi hln hq
          cases f with
          | next =>
            obtain ⟨σ6, H6, S6, q6⟩ := hsp
            exact end_ S6 fun s7 J7 => ⟨_, _, J7, q6⟩
          | brk =>
            obtain ⟨σ6, H6, S6, q6⟩ := hsp
            exact end_ S6 fun s7 J7 => ⟨_, _, J7, q6⟩
          | cont =>
            obtain ⟨σ6, H6, S6, q6⟩ := hsp
            exact end_ S6 fun s7 J7 => ⟨_, _, J7, q6⟩
          | ret u =>
            obtain ⟨v6, σ6, H6, S6, r6, q6⟩ := hsp
            exact end_ S6 fun s7 J7 => ⟨_, _, _, J7, r6, q6⟩
        | false => exact ih (hno rfl)
      | @no_ x c ts b₀ suite np pos' hds2 l2 hc hsu r ih =>
        rintro ⟨b, hb1, hyes, hno⟩
        refine wpAny_handleBy_cons (codeAny_handlers_test ?_) (by intro q; cases q)
        refine test hc ((PySem.W.exm_one (M := model X.prog X.w) (J3.kIn) LT hb1).here ?_)
        cases b with
        | true =>
          refine codeAny_handlers_suite ?_
          refine HandSPX.lands_againZ fl3 fun h4 fl4 up4 => ?_
          have J4 : Inv X pins σ' H' { s' with heap := h4 } := J.landed nb fl4.1 ((up.trans up3).trans up4) os ag
          obtain ⟨oe4, vs4, he4, hz4, hd4⟩ := fl4.there
          refine wpAny_mono ((hsu a oe4 cls d (X.pn ++ pins) hz4 ⟨_, hd4⟩).run [] _ _ H' _ (J4.suite he4 hd4 na nL nF) (hyes rfl a na)) (fun f s6 hsp => ?_) (fun _ _ z => False.elim z)
          cases f with
          | next =>
            obtain ⟨σ6, H6, S6, q6⟩ := hsp
            exact ⟨_, _, S6.unsuite ok, q6⟩
          | brk =>
            obtain ⟨σ6, H6, S6, q6⟩ := hsp
            exact ⟨_, _, S6.unsuite ok, q6⟩
          | cont =>
            obtain ⟨σ6, H6, S6, q6⟩ := hsp
            exact ⟨_, _, S6.unsuite ok, q6⟩
          | ret u =>
            obtain ⟨v6, σ6, H6, S6, r6, q6⟩ := hsp
            exact ⟨_, _, _, S6.unsuite ok, r6, q6⟩
        | false => exact ih (hno rfl)
    exact go hh wish
  · cases f with
    | next =>
      obtain ⟨σ', H', J', q⟩ := hsp
      exact wpAny_execs_nil ⟨σ', H', J'.ofTry ok, q⟩
    | brk =>
      obtain ⟨σ', H', J', q⟩ := hsp
      exact ⟨σ', H', J'.ofTry ok, q⟩
    | cont =>
      obtain ⟨σ', H', J', q⟩ := hsp
      exact ⟨σ', H', J'.ofTry ok, q⟩
    | ret u =>
      obtain ⟨v, σ', H', J', r, q⟩ := hsp
      exact ⟨v, σ', H', J'.ofTry ok, r, q⟩
end
/-! ### C(..) where an error is wished for at the slots -/
section
variable {X : Cx} {CX : CXT} {k : Nat} {f C : Addr} {fd : FuncData} {ps : List Str} {sp : Sp} {E : L2.St → XK} {x : Str} {p pos : Pos} {e : Expr} {es : List Expr} {t : TA}
theorem run_makeS {pins : List (Addr × Obj)} {σ : L2.St} {H : Hp} {s : Shared} {Q : VK} {us : List Value} {vs : List V} (M : Mk X.K C f) (F : FnOk X.prog X.w X.K X.mg X.base CX k f fd ps sp) (hr : Room (k + 1) X.A) (hb : Binds X.K fd ps [])
    (hx : PassesAt CX X σ (E σ)) (I : Inv X pins σ H s) (r : Vals vs us)
    (h : ∀ o dx, H o = none → H dx = none → dx ≠ o → sp (.ref o :: vs) (upd (upd H dx (.own o)) o (.ins C dx [])) (fun v H2 => v = .non ∧ Q (.ref o) H2) (E σ)) :
    wpAny (model X.prog X.w) X.A (call (.ref C) us) (EP X pins σ Q) X.xe s := by
  have hq := h (s.heap.objs.size + 1) s.heap.objs.size (I.hok.fresh (Nat.le_succ _)) (I.hok.fresh (Nat.le_refl _)) (Nat.ne_of_lt (Nat.lt_succ_self _))
  have I2 := Inv.made (C := C) I
  have r2 : Vals (V.ref (s.heap.objs.size + 1) :: vs) (Value.ref (s.heap.objs.size + 1) :: us) := .cons rfl r
  have hl : (Value.ref (s.heap.objs.size + 1) :: us ++ []).length = ps.length := by
    have e := r2.length
    rw [F.len _ _ _ _ hq] at e
    rw [List.append_nil]
    exact e.symm
  have b := hb _ (Value.ref (s.heap.objs.size + 1) :: us) I2.kIn hl
  rw [List.append_nil] at b
  refine wpAny_call (make_map (f := f) I.kIn M.makes M.init (beq_iff_eq.mp M.fn) (codeAny_mono (F.run _ X.stack _ _ ⟨Value.ref (s.heap.objs.size + 1) :: us, []⟩ (Value.ref (s.heap.objs.size + 1) :: us) _ _ (E σ) (hr.make C us [])
    (I2.env0.make C us []) b r2 hq) fun r s' hq' => ?_))
  cases r with
  | error e => exact hx pins _ _ e s' I2 hq'
  | ok fl =>
    cases fl with
    | ret u =>
      obtain ⟨v, H', I3, rv, ev, q3⟩ := I2.after hq'
      subst ev
      exact ⟨rv, ⟨V.ref (s.heap.objs.size + 1), H', I3, rfl, q3⟩⟩
    | next => exact False.elim hq'
    | brk => exact False.elim hq'
    | cont => exact False.elim hq'
def tMakeS (C : Addr) (sp : Sp) (E : L2.St → XK) (t : TA) : TE := fun σ H Q => t σ H fun vs H1 => ∀ o dx, H1 o = none → H1 dx = none → dx ≠ o → sp (.ref o :: vs) (upd (upd H1 dx (.own o)) o (.ins C dx [])) (fun v H2 => v = .non ∧ Q (.ref o) H2) (E σ)
theorem pe_makeS (M : Mk X.K C f) (F : FnOk X.prog X.w X.K X.mg X.base CX k f fd ps sp) (hr : Room (k + 1) X.A) (hg : Gl X x) (hm : X.mg x = some (.ref C)) (hb : Binds X.K fd ps []) (hx : ∀ σ, PassesAt CX X σ (E σ))
    (ha : PA X (e :: es) t) (hdb : (x == ("__debug__" : Str)) = false := by decide) (he : starEach (e :: es) X.env = (false, eval e X.env) :: starEach es X.env := by rfl) (hpl : (backTo pos (starEach es X.env)).any (·.1) = false := by rfl) :
    PE X (.Call (.Name x p) (e :: es) [] pos) (tMakeS C sp E t) := by
  refine ⟨fun pins s σ H Q I h => ?_⟩
  refine wpAny_Call_Name_kw (ld_glob I hg hm ?_ hdb)
  refine PySem.W.callWith_K (h₀ := X.base) I.ok.mod.kin M.kp (thn (ha.run pos pins s σ H _ I h) fun us s1 ⟨vs, H1, I1, r, q⟩ => ⟨I1.kIn, ?_⟩) he hpl
  exact run_makeS M F hr hb (hx σ) I1 r q
end
/-! ### defs that raise -/
section
variable {P : Program} {w : World} {K : PySem.W.Frag} {mg : Str → Option Value} {base : Heap}
structure FunQ (K : PySem.W.Frag) (x qual : Str) (st : Stmt) (f : Addr) (fd : FuncData) (c : Addr) : Prop where
  ex : ∃ (oc : Value) (od : Option Addr) (kV doc pm : Value) (an : Option Addr) (ct : Value) (osl : Array (Option Value)),
    fd = PySem.W.fnOf x qual (defArgs st) (defBody st) (defScope st) .none kV doc pm an (.ref c) ct ∧ K.lookup f = some ⟨oc, od, .func fd, osl⟩ ∧ PySem.W.codeIn K (.ref c) qual = true
  kp : PySem.W.keepIn K (.ref f) = true
theorem FunT.okX {x : Str} {st : Stmt} {f c : Addr} {fd : FuncData} {N ps : List Str} {k : Nat} {sp : Sp} (F : FunT K x st f fd c) (S : FnScope N ps (defScope st)) (len : ∀ vs H Q E, sp vs H Q E → vs.length = ps.length)
    (hbody : ∀ (A : Around) (outer : List Env) (s : Shared) (H : Hp) (vs : List V) (Q : VK) (E : XK), Room k (A.deeper (envOfC x (defScope st) s.heap.objs.size f (.ref c))) → sp vs H Q E →
      ∃ t, PSs (cxOf (L2.CX P w) P w K mg base N x (defScope st) f (.ref c) A outer s H E) (defBody st) t ∧ t { nx := fun _ H' => Q .non H', rt := Q } (start N vs) H) : FnOk P w K mg base (L2.CX P w) (k + 1) f fd ps sp := by
  obtain ⟨oc, od, kV, doc, pm, an, ct, osl, rfl, lk, hcd⟩ := F.ex
  exact fn_of lk hcd S len fun A outer s H vs Q E hr hsp => hbody A outer s H vs Q E hr hsp
theorem FunQ.okX {x qual : Str} {st : Stmt} {f c : Addr} {fd : FuncData} {N ps : List Str} {k : Nat} {sp : Sp} (F : FunQ K x qual st f fd c) (S : FnScope N ps (defScope st)) (len : ∀ vs H Q E, sp vs H Q E → vs.length = ps.length)
    (hbody : ∀ (A : Around) (outer : List Env) (s : Shared) (H : Hp) (vs : List V) (Q : VK) (E : XK), Room k (A.deeper (envOfC qual (defScope st) s.heap.objs.size f (.ref c))) → sp vs H Q E →
      ∃ t, PSs (cxOf (L2.CX P w) P w K mg base N qual (defScope st) f (.ref c) A outer s H E) (defBody st) t ∧ t { nx := fun _ H' => Q .non H', rt := Q } (start N vs) H) : FnOk P w K mg base (L2.CX P w) (k + 1) f fd ps sp := by
  obtain ⟨oc, od, kV, doc, pm, an, ct, osl, rfl, lk, hcd⟩ := F.ex
  exact fn_of lk hcd S len fun A outer s H vs Q E hr hsp => hbody A outer s H vs Q E hr hsp
end
end Gx
namespace Gx
open PySem PySem.Spec PyProof.Rows L2
/-- no error leaves -/
theorem passD {X : Cx} : Passes (L2.CX X.prog X.w) X (fun _ _ _ => False) := fun _ _ _ _ _ _ _ ⟨_, _, _, _, _, _, _, _, _, _, _, _, h⟩ => h.elim
end Gx
set_option Elab.async false
set_option linter.all false
set_option maxRecDepth 100000
set_option maxHeartbeats 2000000
namespace Sn
open PySem PySem.Spec PyProof.Rows L2
/-! ### masks: also 511 -/
/-- the runs of zeros, as a list -/
def runL (m : Nat) : Nat → Nat → List Nat
  | 0, _ => []
  | f + 1, c => c :: runL m f ((c * 5 + 1) % (m + 1))
theorem runL_at (m : Nat) : ∀ (f c k : Nat), k < f → (runL m f c)[k]? = some (lcgI m c k)
  | 0, _, _, h => absurd h (Nat.not_lt_zero _)
  | f + 1, c, 0, _ => rfl
  | f + 1, c, k + 1, h => by
    show (runL m f ((c * 5 + 1) % (m + 1)))[k]? = _
    rw [runL_at m f _ k (Nat.lt_of_succ_lt_succ h)]
    have key : ∀ k, lcgI m ((c * 5 + 1) % (m + 1)) k = lcgI m c (k + 1) := fun k => by
      induction k with
      | zero => rfl
      | succ k ih =>
        show (lcgI m _ k * 5 + 1) % (m + 1) = (lcgI m c (k + 1) * 5 + 1) % (m + 1)
        rw [ih]
    rw [key]
theorem all511 : ((List.range 512).all fun j => (runL 511 512 0).contains j) = true := by decide +kernel
theorem round511 : lcgI 511 0 512 = 0 := by decide +kernel
theorem lcgI_le {m i : Nat} (hi : i ≤ m) : ∀ k, lcgI m i k ≤ m
  | 0 => hi
  | k + 1 => Nat.le_of_lt_succ (Nat.mod_lt _ (Nat.succ_pos _))
theorem lcgI_plus (m i a : Nat) : ∀ k, lcgI m (lcgI m i a) k = lcgI m i (a + k)
  | 0 => rfl
  | k + 1 => by
    show (lcgI m (lcgI m i a) k * 5 + 1) % (m + 1) = (lcgI m i (a + k) * 5 + 1) % (m + 1)
    rw [lcgI_plus m i a k]
theorem from0 {j : Nat} (hj : j ≤ 511) : ∃ b, b < 512 ∧ lcgI 511 0 b = j := by
  have h := List.all_eq_true.mp all511 j (List.mem_range.mpr (Nat.lt_succ_of_le hj))
  have hm : j ∈ runL 511 512 0 := by simpa using h
  obtain ⟨b, hb, e⟩ := List.getElem_of_mem hm
  have hl : ∀ f c, (runL 511 f c).length = f := fun f => by
    induction f with
    | zero => intro c; rfl
    | succ f ih => intro c; show (runL 511 f _).length + 1 = f + 1; rw [ih]
  rw [hl] at hb
  refine ⟨b, hb, ?_⟩
  have e2 := runL_at 511 512 0 b hb
  rw [List.getElem?_eq_getElem (by rw [hl]; exact hb), e] at e2
  exact (Option.some.inj e2).symm
theorem any511 {i j : Nat} (hi : i ≤ 511) (hj : j ≤ 511) : ∃ k, k ≤ 512 ∧ lcgI 511 i k = j := by
  obtain ⟨a, ha, ea⟩ := from0 hi
  obtain ⟨b, hb, eb⟩ := from0 hj
  by_cases h : a ≤ b
  · refine ⟨b - a, by omega, ?_⟩
    rw [← ea, lcgI_plus, show a + (b - a) = b by omega]
    exact eb
  · refine ⟨512 - a + b, by omega, ?_⟩
    rw [← ea, lcgI_plus, show a + (512 - a + b) = 512 + b by omega, ← lcgI_plus, round511]
    exact eb
/-- a mask of the tables here: every slot is met in time -/
structure Mk (m : Nat) : Prop where
  odd : m % 2 = 1
  le : m ≤ 511
  run : ∀ (h : Int) (j : Nat), j ≤ m → ∃ n, n ≤ m + 13 ∧ runI m (SetTable.bits h) n = j
theorem mk_of {m : Nat} (h : MaskOk m) : Mk m := ⟨mask_odd h, by rcases h with e | e | e <;> omega, fun x j hj => by
  obtain ⟨n, hn, e⟩ := run_meets h x hj
  exact ⟨n, Nat.le_succ_of_le hn, e⟩⟩
theorem mk511 : Mk 511 := ⟨rfl, Nat.le_refl _, fun h j hj => by
  obtain ⟨k, hk, e⟩ := any511 (runI_le 511 (SetTable.bits h) 12) hj
  exact ⟨12 + k, by omega, by rw [runI_tail (bits_lt h)]; exact e⟩⟩
theorem turns_ge (m : Nat) : m + 13 < SetTable.turns m := by unfold SetTable.turns; omega
theorem Mk.meets {m : Nat} (M : Mk m) (h : Int) {j : Nat} (hj : j ≤ m) : ∃ k, k < 10 * SetTable.turns m ∧ way m h k = j := by
  obtain ⟨n, hn, e⟩ := M.run h j hj
  obtain ⟨k, hk, e2⟩ := run_nth m (SetTable.bits h) n
  have ht := turns_ge m
  exact ⟨k, by omega, (congrArg SetTable.Probe.j e2).trans e⟩
theorem way_in (m : Nat) (h : Int) (k : Nat) : way m h k ≤ m := by
  have hi : SetTable.bits h % (m + 1) ≤ m := Nat.le_of_lt_succ (Nat.mod_lt _ (Nat.succ_pos _))
  have r := runEnd_bd hi
  have q := nth_in (m := m) k (runAt m (SetTable.bits h % (m + 1)) (SetTable.bits h)) (by
    show SetTable.bits h % (m + 1) + (SetTable.runEnd m (SetTable.bits h % (m + 1)) - SetTable.bits h % (m + 1)) ≤ m
    omega)
  exact Nat.le_trans (Nat.le_add_right _ _) q
/-! ### a table of hashes -/
structure Tb (t : SetTable) (hs : List Int) : Prop where
  ris : Ris t.place.toList
  dm : t.dummies = #[]
  sz : t.place.toList.length = hs.length
  mok : Mk t.mask
  bd : ∀ x ∈ t.place.toList, x ≤ t.mask
  reach : ∀ (i : Nat) (h : Int) (j : Nat), hs[i]? = some h → t.place.toList[i]? = some j → ∃ k, way t.mask h k = j ∧ ∀ c, c < k → way t.mask h c ∈ t.place.toList
theorem Tb.first {t : SetTable} {hs : List Int} (T : Tb t hs) (hl : hs.length ≤ t.mask) (h : Int) : ∃ K, K < 10 * SetTable.turns t.mask ∧ way t.mask h K ∉ t.place.toList ∧ ∀ c, c < K → way t.mask h c ∈ t.place.toList := by
  obtain ⟨j, hj, hn⟩ := st_missing t.place.toList (t.mask + 1) (by rw [T.sz]; omega)
  obtain ⟨k, hk, e⟩ := T.mok.meets h (Nat.le_of_lt_succ hj)
  obtain ⟨K, h1, h2, h3⟩ := st_least (p := fun c => way t.mask h c ∉ t.place.toList) k (by rw [e]; exact hn)
  exact ⟨K, Nat.lt_of_le_of_lt h1 hk, h2, fun c hc => Classical.byContradiction fun z => h3 c hc z⟩
theorem Tb.before {t : SetTable} {hs : List Int} (T : Tb t hs) {h : Int} {K i j : Nat} (hK : way t.mask h K ∉ t.place.toList) (hi : hs[i]? = some h) (hj : t.place.toList[i]? = some j) : ∃ k, k < K ∧ way t.mask h k = j := by
  obtain ⟨k, e, hb⟩ := T.reach i h j hi hj
  have hm : way t.mask h k ∈ t.place.toList := by rw [e]; exact List.mem_of_getElem? hj
  refine ⟨k, ?_, e⟩
  rcases Nat.lt_trichotomy k K with c | c | c
  · exact c
  · rw [c] at hm; exact absurd hm hK
  · exact absurd (hb K c) hK
/-- one more, at the first empty slot of its way -/
theorem Tb.put {t : SetTable} {hs : List Int} (T : Tb t hs) {h : Int} {K : Nat} (hK : way t.mask h K ∉ t.place.toList) (hb : ∀ c, c < K → way t.mask h c ∈ t.place.toList) :
    (t.put (way t.mask h K)).2 ≤ hs.length ∧ Tb (t.put (way t.mask h K)).1 (hs.take (t.put (way t.mask h K)).2 ++ h :: hs.drop (t.put (way t.mask h K)).2) ∧ (t.put (way t.mask h K)).1.mask = t.mask ∧ (t.put (way t.mask h K)).1.fill = hs.length + 1 := by
  generalize hj : way t.mask h K = j at hK
  have hjm : j ≤ t.mask := by rw [← hj]; exact way_in _ _ _
  obtain ⟨c1, _, _⟩ := below_cut T.ris j
  have e0 : (t.put j).2 = SetTable.below t.place j := rfl
  have hp1 : SetTable.below t.place j ≤ t.place.toList.length := by rw [Array.length_toList]; exact c1
  have hp2 : SetTable.below t.place j ≤ hs.length := by rw [← T.sz]; exact hp1
  have hat : t.place[SetTable.below t.place j]? ≠ some j := fun e => hK (List.mem_of_getElem? (by rw [Array.getElem?_toList]; exact e))
  have pl := put_place t j
  have up : ∀ {x : Nat}, x ∈ t.place.toList → x ∈ (t.put j).1.place.toList := fun {x} hx => by rw [pl]; exact mem_ins.2 (.inr hx)
  rw [e0]
  refine ⟨hp2, ⟨ris_insert T.ris hat, put_dm T.dm j, ?_, T.mok, fun x hx => ?_, fun i h' j' h1 h2 => ?_⟩, rfl, ?_⟩
  · rw [pl, len_ins _ hp1, len_ins _ hp2, T.sz]
  · rw [pl] at hx
    rcases mem_ins.1 hx with z | z
    · exact z ▸ hjm
    · exact T.bd x z
  · rw [tins_get hs hp2] at h1
    rw [pl, tins_get _ hp1] at h2
    show ∃ k, way t.mask h' k = j' ∧ ∀ c, c < k → _
    by_cases c : i < SetTable.below t.place j
    · rw [if_pos c] at h1 h2
      obtain ⟨k, e, z⟩ := T.reach i h' j' h1 h2
      exact ⟨k, e, fun c hc => up (z c hc)⟩
    · rw [if_neg c] at h1 h2
      by_cases d : i = SetTable.below t.place j
      · rw [if_pos d] at h1 h2
        cases h1; cases h2
        exact ⟨K, hj, fun c hc => up (hb c hc)⟩
      · rw [if_neg d] at h1 h2
        obtain ⟨k, e, z⟩ := T.reach (i - 1) h' j' h1 h2
        exact ⟨k, e, fun c hc => up (z c hc)⟩
  · show (t.put j).1.place.size + (t.put j).1.dummies.size = _
    rw [put_dm T.dm j, ← Array.length_toList, pl, len_ins _ hp1, T.sz]
    rfl
/-! ### laid anew -/
theorem Mk.free {m : Nat} (M : Mk m) (owner : Array (Option Nat)) (h : Int) {j : Nat} (hj : j ≤ m) (hf : oAt owner j = none) :
    ∃ K, SetTable.layClean.free m owner (SetTable.turns m) (SetTable.bits h % (m + 1)) (SetTable.bits h) = some (way m h K) ∧ oAt owner (way m h K) = none ∧ ∀ c, c < K → oAt owner (way m h c) ≠ none := by
  obtain ⟨n, hn, e⟩ := M.run h j hj
  have ew : way m h (off m (SetTable.bits h % (m + 1)) (SetTable.bits h) n) = j := by
    show (nth m (runAt m _ _) (off m _ _ n)).j = j
    rw [nth_off, itL_run]
    exact e
  obtain ⟨K, k1, k2, k3⟩ := st_least (p := fun c => oAt owner (way m h c) = none) _ (by rw [ew]; exact hf)
  have ht := turns_ge m
  refine ⟨K, free_spec m owner (SetTable.turns m) n _ _ K (by omega) k1 (fun c hc => ?_) (by rw [show oAt owner _ = none from k2]; rfl), k2, k3⟩
  cases z : oAt owner (way m h c) with
  | none => exact absurd z (k3 c hc)
  | some _ => rfl
theorem own_step {m : Nat} (M : Mk m) {done : List Int} {owner : Array (Option Nat)} (W : Own m done owner) (hl : done.length ≤ m) (h : Int) :
    ∃ j, SetTable.layClean.free m owner (SetTable.turns m) (SetTable.bits h % (m + 1)) (SetTable.bits h) = some j ∧ Own m (done ++ [h]) (owner.setIfInBounds j (some done.length)) := by
  obtain ⟨ps, hps, hin⟩ := W.ps
  obtain ⟨j0, h0, hn0⟩ := st_missing ps (m + 1) (by omega)
  have hj0 : oAt owner j0 = none := Classical.byContradiction fun z => hn0 (hin j0 (Nat.le_of_lt_succ h0) z)
  obtain ⟨K, e1, e2, e3⟩ := M.free owner h (Nat.le_of_lt_succ h0) hj0
  have hjs : way m h K < owner.size := by rw [W.sz]; exact Nat.lt_succ_of_le (way_in m h K)
  have hself := oAt_set_self (some done.length) hjs
  have other : ∀ {i : Nat}, i ≠ way m h K → oAt (owner.setIfInBounds (way m h K) (some done.length)) i = oAt owner i := fun hi => oAt_set_ne _ hi
  have mono : ∀ {i : Nat}, oAt owner i ≠ none → oAt (owner.setIfInBounds (way m h K) (some done.length)) i ≠ none := fun {i} hi => by
    rw [other (fun c => hi (by rw [c]; exact e2))]
    exact hi
  refine ⟨way m h K, e1, by rw [Array.size_setIfInBounds]; exact W.sz, fun j k hj e => ?_, fun k hk => ?_, way m h K :: ps, by simp [hps], fun j hj e => ?_⟩
  · by_cases c : j = way m h K
    · subst c
      rw [hself] at e
      cases e
      exact ⟨h, K, by simp, rfl, fun c hc => mono (e3 c hc)⟩
    · rw [other c] at e
      obtain ⟨h', K', a1, a2, a3⟩ := W.at_ j k hj e
      exact ⟨h', K', by rw [List.getElem?_append_left (List.getElem?_eq_some_iff.mp a1).1]; exact a1, a2, fun c hc => mono (a3 c hc)⟩
  · rcases Nat.lt_or_ge k done.length with c | c
    · obtain ⟨j, hj, e⟩ := W.all k c
      exact ⟨j, hj, by rw [other (fun z => by rw [z, e2] at e; cases e)]; exact e⟩
    · have ek : k = done.length := by simp at hk; omega
      exact ⟨way m h K, way_in m h K, by rw [ek]; exact hself⟩
  · by_cases c : j = way m h K
    · rw [c]; exact List.mem_cons_self
    · rw [other c] at e
      exact List.mem_cons_of_mem _ (hin j hj e)
theorem fold_own {m : Nat} (M : Mk m) : ∀ (rest done : List Int) (owner : Array (Option Nat)), Own m done owner → done.length + rest.length ≤ m →
    ∃ o2, rest.foldl (stepF m) (some (owner, done.length)) = some (o2, (done ++ rest).length) ∧ Own m (done ++ rest) o2
  | [], done, owner, W, _ => ⟨owner, by simp, by simpa using W⟩
  | h :: rest, done, owner, W, hl => by
    simp only [List.length_cons] at hl
    obtain ⟨j, e, W1⟩ := own_step M W (by omega) h
    have hl1 : (done ++ [h]).length = done.length + 1 := by simp
    obtain ⟨o2, f, W2⟩ := fold_own M rest (done ++ [h]) _ W1 (by omega)
    rw [hl1, List.append_assoc] at f
    rw [List.append_assoc] at W2
    exact ⟨o2, by rw [List.foldl_cons, stepF_some e]; exact f, W2⟩
theorem relay_tb (t : SetTable) {hs : Array Int} {wanted M : Nat} (hw : SetTable.sizeAbove wanted - 1 = M) (hM : Mk M) (hn : hs.size ≤ M) :
    ∃ t2 order, t.relaid hs wanted = some (t2, order) ∧ order.toList.Perm (List.range hs.size) ∧ Tb t2 (order.toList.map fun i => hs.getD i 0) ∧ t2.mask = M := by
  obtain ⟨owner, f, W⟩ := fold_own hM hs.toList [] _ (Own.init M) (by simpa using hn)
  rw [List.nil_append] at f W
  have el : SetTable.layClean M hs = some owner := by
    rw [layClean_eq, show hs.toList.foldl (stepF M) (some (Array.replicate (M + 1) none, 0)) = _ from f]
    rfl
  have er : t.relaid hs wanted = some (tabOf t M owner, ((liveOf M owner).map (·.2)).toArray) := by rw [relaid_eq, hw, el]; rfl
  obtain ⟨r1, r2⟩ : Ris ((liveOf M owner).map (·.1)) ∧ ∀ x ∈ (liveOf M owner).map (·.1), x ∈ List.range (M + 1) := ris_live (fun j => owner.getD j none) (List.range (M + 1)) (by unfold Ris; first | exact List.pairwise_lt_range | exact List.pairwise_lt_range _)
  have one : ∀ {j k : Nat}, (j, k) ∈ liveOf M owner ↔ j ≤ M ∧ oAt owner j = some k := mem_live W.sz
  have hlen : (liveOf M owner).length = hs.size := by
    obtain ⟨ps, p1, p2⟩ := W.ps
    have nd : ((liveOf M owner).map (·.1)).Nodup := List.Pairwise.imp (fun h => Nat.ne_of_lt h) r1
    have a := nat_nodup_len ((liveOf M owner).map (·.1)) ps nd fun x hx => by
      obtain ⟨⟨y, k⟩, hq, rfl⟩ := List.mem_map.mp hx
      obtain ⟨b1, b2⟩ := one.1 hq
      exact p2 y b1 (by rw [b2]; exact nofun)
    have b := nat_nodup_len (List.range hs.size) ((liveOf M owner).map (·.2)) List.nodup_range fun k hk => by
      obtain ⟨j, b1, b2⟩ := W.all k (by simpa using hk)
      exact List.mem_map.mpr ⟨(j, k), one.2 ⟨b1, b2⟩, rfl⟩
    simp only [List.length_map, List.length_range, p1, Array.length_toList] at a b
    omega
  refine ⟨tabOf t M owner, _, er, ?_, ⟨r1, rfl, ?_, hM, fun x hx => Nat.le_of_lt_succ (List.mem_range.mp (r2 x hx)), fun i h j h1 h2 => ?_⟩, rfl⟩
  · refine perm_range hs.size _ (by show ((liveOf M owner).map (·.2)).length = _; rw [List.length_map, hlen]) fun k hk => ?_
    obtain ⟨j, b1, b2⟩ := W.all k (by simpa using hk)
    exact List.mem_map.mpr ⟨(j, k), one.2 ⟨b1, b2⟩, rfl⟩
  · show ((liveOf M owner).map (·.1)).length = (((liveOf M owner).map (·.2)).map _).length
    simp only [List.length_map]
  · have h1' : (((liveOf M owner).map (·.2)).map fun i => hs.getD i 0)[i]? = some h := h1
    have h2' : ((liveOf M owner).map (·.1))[i]? = some j := h2
    rw [List.getElem?_map, List.getElem?_map] at h1'
    rw [List.getElem?_map] at h2'
    cases hq : (liveOf M owner)[i]? with
    | none => rw [hq] at h2'; cases h2'
    | some q =>
      obtain ⟨y, k⟩ := q
      rw [hq] at h1' h2'
      obtain rfl : y = j := Option.some.inj h2'
      have eh : hs.getD k 0 = h := Option.some.inj h1'
      obtain ⟨b1, b2⟩ := one.1 (List.mem_of_getElem? hq)
      obtain ⟨h0, K, a1, a2, a3⟩ := W.at_ y k b1 b2
      have e0 : hs.getD k 0 = h0 := by rw [Array.getD_eq_getD_getElem?, ← Array.getElem?_toList, a1]; rfl
      obtain rfl : h0 = h := e0.symm.trans eh
      refine ⟨K, a2, fun c hc => ?_⟩
      cases z : oAt owner (way M h0 c) with
      | none => exact absurd z (a3 c hc)
      | some k2 => exact List.mem_map.mpr ⟨(way M h0 c, k2), one.2 ⟨way_in M h0 c, z⟩, rfl⟩
theorem size20 : SetTable.sizeAbove (SetTable.grown 5) = 32 := by decide +kernel
theorem size76 : SetTable.sizeAbove (SetTable.grown 19) = 128 := by decide +kernel
theorem size308 : SetTable.sizeAbove (SetTable.grown 77) = 512 := by decide +kernel
end Sn
set_option Elab.async false
set_option linter.all false
set_option maxRecDepth 100000
set_option maxHeartbeats 2000000
namespace Sn
open PySem PySem.Spec PyProof.Rows L2
section
variable {P : Program} {w : World}
/-! ### what a search asks of a key -/
/-- of no class statement, n levels down -/
def NoCls (P : Program) (w : World) (n : Nat) (s : Shared) (v : Value) : Prop := ∀ (A : Around) (E : Value → Shared → Prop) (Q : Bool → Shared → Prop), Q false s → wpAny (model P w) A (ofAClassStatement n v) Q E s
theorem NoCls.tuple {n : Nat} {s : Shared} {a : Addr} {o : Obj} {vs : Array Value} {m : Nat} (ho : s.heap.get? a = some o) (hc : o.cls = .type "tuple") (hd : o.data = .seq vs m) (hq : ∀ v ∈ vs.toList, NoCls P w n s v) : NoCls P w (n + 1) s (.ref a) := fun A E Q h => by
  have hT : s.TypeIs (.ref a) "tuple" := ⟨o, ho, hc⟩
  unfold ofAClassStatement
  refine wpAny_bind (wpAny_typeOf hT ?_)
  dsimp only
  have e : (("tuple" : String) == "tuple") = true := by decide
  simp only [e, if_true, Bool.not_true, Bool.false_eq_true, if_false]
  try refine wpAny_bind (wpAny_pure ?_)
  try simp only [Bool.not_true, Bool.false_eq_true, if_false]
  show wpAny _ _ (seqItems? (.ref a) >>= _) _ _ s
  refine wpAny_bind (wpAny_seqItems ho hd ?_)
  dsimp only
  refine wpAny_bind ?_
  show wpAny _ _ (forIn vs _ _) _ _ s
  rw [← Array.forIn_toList]
  refine wpAny_forIn_list _ (fun rest r z => r.1 = none ∧ z = s ∧ ∀ v ∈ rest, NoCls P w n s v) _ ?_ ?_ _ _ ⟨rfl, rfl, hq⟩
  · rintro v rest r z ⟨hr, rfl, hall⟩
    refine wpAny_bind (hall v List.mem_cons_self _ _ _ ?_)
    simp only [Bool.false_eq_true, if_false]
    exact wpAny_pure ⟨rfl, rfl, fun u hu => hall u (List.mem_cons_of_mem _ hu)⟩
  · rintro ⟨r1, r2⟩ z ⟨hr, rfl, _⟩
    obtain rfl : r1 = none := hr
    exact wpAny_pure h
/-- its hash is by value or not: either answer, nothing done -/
def SomeB (P : Program) (w : World) (n : Nat) (s : Shared) (v : Value) : Prop := ∀ (A : Around) (E : Value → Shared → Prop) (Q : Bool → Shared → Prop), (∀ b, Q b s) → wpAny (model P w) A (hashByValue n v) Q E s
theorem SomeB.tuple {n : Nat} {s : Shared} {a : Addr} {o : Obj} {vs : Array Value} {m : Nat} (ho : s.heap.get? a = some o) (hc : o.cls = .type "tuple") (hd : o.data = .seq vs m) (hq : ∀ v ∈ vs.toList, SomeB P w n s v) : SomeB P w (n + 1) s (.ref a) := fun A E Q h => by
  have hT : s.TypeIs (.ref a) "tuple" := ⟨o, ho, hc⟩
  unfold hashByValue
  refine wpAny_bind (wpAny_specialOf hT F.slot_tuple_hash.lookup ?_)
  show wpAny _ _ (seqItems? (.ref a) >>= _) _ _ s
  refine wpAny_bind (wpAny_seqItems ho hd ?_)
  refine wpAny_bind ?_
  show wpAny _ _ (forIn vs _ _) _ _ s
  rw [← Array.forIn_toList]
  refine wpAny_forIn_list _ (fun rest r z => r.1 = none ∧ z = s ∧ ∀ v ∈ rest, SomeB P w n s v) _ ?_ ?_ _ _ ⟨rfl, rfl, hq⟩
  · rintro v rest r z ⟨hr, rfl, hall⟩
    refine wpAny_bind (hall v List.mem_cons_self _ _ _ fun b => ?_)
    cases b with
    | true =>
      simp only [Bool.not_true, Bool.false_eq_true, if_false]
      exact wpAny_pure ⟨rfl, rfl, fun u hu => hall u (List.mem_cons_of_mem _ hu)⟩
    | false =>
      simp only [Bool.not_false, if_true]
      exact wpAny_pure (wpAny_pure (h _))
  · rintro ⟨r1, r2⟩ z ⟨hr, rfl, _⟩
    obtain rfl : r1 = none := hr
    exact wpAny_pure (h _)
mutual
theorem nocls_key : ∀ (k : NestedKey) (v : Value) (n : Nat) (s : Shared), NestedIs s.heap k v → k.depth ≤ n → NoCls P w n s v
  | .none, _, n, s, x, _ => by cases x; exact fun A E Q h => by cases n <;> exact wpAny_pure h
  | .num i, _, n, s, x, _ => by cases x <;> exact fun A E Q h => by cases n <;> exact wpAny_pure h
  | .text y, _, n, s, x, _ => by cases x; exact fun A E Q h => by cases n <;> exact wpAny_pure h
  | .tup ks, _, n, s, x, hn => by
    cases x with
    | tup hg hc hd hk =>
      simp only [NestedKey.depth] at hn
      cases n with
      | zero => omega
      | succ n => exact .tuple hg hc hd (nocls_keys ks _ n s hk (by omega))
theorem nocls_keys : ∀ (ks : List NestedKey) (vs : List Value) (n : Nat) (s : Shared), NestedAll s.heap ks vs → NestedKey.depthAll ks ≤ n → ∀ v ∈ vs, NoCls P w n s v
  | [], _, n, s, x, _, v, hv => by cases x; cases hv
  | k :: ks, _, n, s, x, hn, v, hv => by
    cases x with
    | cons x1 x2 =>
      simp only [NestedKey.depthAll] at hn
      rcases List.mem_cons.mp hv with e | hv
      · exact e ▸ nocls_key k _ n s x1 (by omega)
      · exact nocls_keys ks _ n s x2 (by omega) v hv
end
mutual
theorem someB_key : ∀ (k : NestedKey) (v : Value) (n : Nat) (s : Shared), NestedIs s.heap k v → k.depth ≤ n → SomeB P w n s v
  | .none, _, n, s, x, _ => by cases x; exact fun A E Q h => by cases n <;> exact wpAny_pure (h _)
  | .num i, _, n, s, x, _ => by cases x <;> exact fun A E Q h => by cases n <;> exact wpAny_pure (h _)
  | .text y, _, n, s, x, _ => by cases x; exact fun A E Q h => by cases n <;> exact wpAny_pure (h _)
  | .tup ks, _, n, s, x, hn => by
    cases x with
    | tup hg hc hd hk =>
      simp only [NestedKey.depth] at hn
      cases n with
      | zero => omega
      | succ n => exact .tuple hg hc hd (someB_keys ks _ n s hk (by omega))
theorem someB_keys : ∀ (ks : List NestedKey) (vs : List Value) (n : Nat) (s : Shared), NestedAll s.heap ks vs → NestedKey.depthAll ks ≤ n → ∀ v ∈ vs, SomeB P w n s v
  | [], _, n, s, x, _, v, hv => by cases x; cases hv
  | k :: ks, _, n, s, x, hn, v, hv => by
    cases x with
    | cons x1 x2 =>
      simp only [NestedKey.depthAll] at hn
      rcases List.mem_cons.mp hv with e | hv
      · exact e ▸ someB_key k _ n s x1 (by omega)
      · exact someB_keys ks _ n s x2 (by omega) v hv
end
end
/-! ### sets of keys -/
abbrev Kd (P : Program) (w : World) : HeapKind P w NestedKey := nestedKind P w
abbrev kh (w : World) (k : NestedKey) : Int := k.hash w
abbrev IsK (P : Program) (w : World) (h : Heap) (k : NestedKey) (a : Addr) : Prop := (Kd P w).is h k a
section
variable {P : Program} {w : World} {A : Around} {E : Value → Shared → Prop} {s : Shared}
theorem seen_no {k : NestedKey} {b : Addr} {Q : Bool → Shared → Prop} (hk : IsK P w s.heap k b) {ys : List Value} (hy : ∀ y ∈ ys, ∃ k' c, y = Value.ref c ∧ IsK P w s.heap k' c) (h : Q false s) :
    wpAny (model P w) A (searchCouldBeSeen (.ref b) ys) Q E s := by
  unfold searchCouldBeSeen
  refine wpAny_bind ?_
  refine wpAny_forIn_list _ (fun rest r z => r.1 = none ∧ z = s ∧ ∀ y ∈ rest, ∃ k' c, y = Value.ref c ∧ IsK P w s.heap k' c) _ ?_ ?_ _ _ ⟨rfl, rfl, hy⟩
  · rintro v rest r z ⟨hr, rfl, hall⟩
    obtain ⟨k', c, rfl, hc⟩ := hall v List.mem_cons_self
    have more : ∀ y ∈ rest, ∃ k' c, y = Value.ref c ∧ IsK P w z.heap k' c := fun u hu => hall u (List.mem_cons_of_mem _ hu)
    dsimp only
    by_cases hv : (b == c || (carriedByValue (.ref b) && carriedByValue (.ref c))) = true
    · exact wp_if_pos hv (wpAny_pure ⟨rfl, rfl, more⟩)
    · refine wp_if_neg hv (wpAny_bind ((Kd P w).quiet hk ?_))
      simp only [Bool.not_true, Bool.false_eq_true, if_false]
      refine wpAny_bind ((Kd P w).quiet hc ?_)
      simp only [Bool.not_true, Bool.false_eq_true, if_false]
      refine wpAny_bind (nocls_key k _ 8 z hk.1 hk.2 _ _ _ ?_)
      simp only [Bool.false_eq_true, if_false]
      refine wpAny_bind (nocls_key k' _ 8 z hc.1 hc.2 _ _ _ ?_)
      simp only [Bool.false_eq_true, if_false]
      exact wpAny_pure ⟨rfl, rfl, more⟩
  · rintro ⟨r1, r2⟩ z ⟨hr, rfl, _⟩
    obtain rfl : r1 = none := hr
    exact wpAny_pure h
def rowsK (w : World) (L : List (Addr × NestedKey)) : List (Int × Value) := L.map fun p => (kh w p.2, Value.ref p.1)
/-- a set of keys at a, as it lies -/
structure St (P : Program) (w : World) (h : Heap) (a : Addr) (L : List (Addr × NestedKey)) (es : Array (Int × Value)) (ep : Nat) (t : SetTable) : Prop where
  ob : ∃ o, h.get? a = some o ∧ o.ExactSet ∧ o.data = .set es ep t
  rows : es.toList = rowsK w L
  tab : Tb t (L.map fun p => kh w p.2)
  nd : (L.map (·.2)).Nodup
  key : ∀ p ∈ L, IsK P w h p.2 p.1
  room : L.length * 5 < t.mask * 3
  msk : t.mask = 7 ∨ t.mask = 31 ∨ t.mask = 127 ∨ t.mask = 511
  led : w.params.followText "set-order" = true ∨ t.led = true
theorem rows_len {w : World} {L : List (Addr × NestedKey)} {es : Array (Int × Value)} (h : es.toList = rowsK w L) : es.size = L.length := by
  rw [← Array.length_toList, h]
  exact List.length_map ..
theorem rows_at {w : World} {L : List (Addr × NestedKey)} {es : Array (Int × Value)} (h : es.toList = rowsK w L) {i : Nat} {p : Addr × NestedKey} (e : L[i]? = some p) : es[i]? = some (kh w p.2, Value.ref p.1) := by
  rw [← Array.getElem?_toList, h, rowsK, List.getElem?_map, e]
  rfl
variable {a : Addr} {L : List (Addr × NestedKey)} {es : Array (Int × Value)} {ep : Nat} {t : SetTable}
theorem Tb.fits {t : SetTable} {hs : List Int} (T : Tb t hs) {n : Nat} (hn : hs.length = n) (hm : n ≤ t.mask) : t.fits n = true := by
  have h1 := T.sz
  rw [Array.length_toList] at h1
  unfold SetTable.fits SetTable.fill
  rw [T.dm, Bool.and_eq_true, beq_iff_eq, decide_eq_true_eq]
  exact ⟨by omega, by show t.place.size + 0 ≤ t.mask; omega⟩
theorem St.fits {h : Heap} (R : St P w h a L es ep t) : t.fits es.size = true := by
  have h3 := R.room
  have h2 := rows_len R.rows
  exact R.tab.fits (by rw [List.length_map, h2]) (by omega)
theorem St.gw {h : Heap} (R : St P w h a L es ep t) : ¬ t.gaveWay = true := by
  unfold SetTable.gaveWay
  rw [R.tab.mok.odd]
  decide
/-- the step c of k's way -/
abbrev stp (t : SetTable) (w : World) (k : NestedKey) (c : Nat) : SetTable.Probe := nth t.mask (runAt t.mask (SetTable.bits (kh w k) % (t.mask + 1)) (SetTable.bits (kh w k))) c
theorem stp_dummy (t : SetTable) (w : World) (k : NestedKey) (c : Nat) : (stp t w k c).dummy = none := by
  have go : ∀ (n : Nat) (p : SetTable.Probe), p.dummy = none → (nth t.mask p n).dummy = none := by
    intro n
    induction n with
    | zero => exact fun p h => h
    | succ n ih =>
      intro p h
      refine ih (adv t.mask p) ?_
      unfold adv
      split <;> exact h
  exact go c _ rfl
/-- the search, from the step c on -/
theorem search_on (R : St P w s.heap a L es ep t) {x : Addr} {k : NestedKey} (hx : IsK P w s.heap k x) (hu : (Kd P w).room A) {K : Nat} (hKf : K < 10 * SetTable.turns t.mask)
    (hK : way t.mask (kh w k) K ∉ t.place.toList) (hKb : ∀ c, c < K → way t.mask (kh w k) c ∈ t.place.toList) {Q : SetFound → Shared → Prop}
    (hin : k ∈ L.map (·.2) → Q (.there none) s) (hout : k ∉ L.map (·.2) → Q (.free (way t.mask (kh w k) K) false) s) :
    ∀ (f c : Nat) (stand : Option SetTable.Probe), stand.getD (t.probeStart (kh w k)) = stp t w k c → c ≤ K → K - c < f →
      (∀ (i : Nat) p, L[i]? = some p → p.2 = k → ∃ d, c ≤ d ∧ d < K ∧ t.place.toList[i]? = some (way t.mask (kh w k) d)) →
      wpAny (model P w) A (setSearchFrom a (.ref x) (kh w k) true f stand) Q E s
  | 0, c, stand, _, _, hf, _ => absurd hf (Nat.not_lt_zero _)
  | f + 1, c, stand, hst, hc, hf, hre => by
    obtain ⟨o, ho, hex, hd⟩ := R.ob
    rw [setSearchFrom_succ]
    refine wpAny_bind (wpAny_setState_of ho hd R.fits ?_)
    dsimp only
    refine wp_if_neg R.gw ?_
    try refine wpAny_bind (wpAny_pure ?_)
    have sh : ∀ q, nth t.mask (stp t w k c) q = stp t w k (c + q) := fun q => (nth_add t.mask c _ q).symm
    have e1 : ∀ q, (nth t.mask (stp t w k c) q).j = way t.mask (kh w k) (c + q) := fun q => congrArg SetTable.Probe.j (sh q)
    have eK : c + (K - c) = K := by omega
    have spec := go_spec t R.tab.ris R.tab.dm (fun i => (es[i]?.map (·.1)).getD 0) (kh w k) (10 * SetTable.turns t.mask) (K - c) _ (stp_dummy t w k c) (by omega)
      (fun q hq => by rw [e1]; exact hKb (c + q) (by omega)) (by rw [e1, eK]; exact hK)
    have hashAt : ∀ (i : Nat) p, L[i]? = some p → (fun i => (es[i]?.map (·.1)).getD 0) i = kh w p.2 := fun i p hp => by
      show (es[i]?.map (·.1)).getD 0 = _
      rw [rows_at R.rows hp]
      rfl
    rcases spec with ⟨q, i, hq, hi, hh, hno, hpr⟩ | ⟨hno, hpr⟩
    · have pr : t.probe (fun i => (es[i]?.map (·.1)).getD 0) (kh w k) (stp t w k c) = _ := hpr
      rw [hst, pr]
      dsimp only
      rw [e1] at hi
      rw [e1, sh]
      have hil : i < L.length := by
        have h1 := (List.getElem?_eq_some_iff.mp hi).1
        have h2 := R.tab.sz
        rw [List.length_map] at h2
        omega
      obtain ⟨p, hp⟩ : ∃ p, L[i]? = some p := ⟨_, List.getElem?_eq_getElem hil⟩
      have hmem := List.mem_of_getElem? hp
      have more : wpAny (model P w) A (searchRest a (.ref x) (kh w k) true f es t (way t.mask (kh w k) (c + q)) i (stp t w k (c + (q + 1)))) Q E s := by
        unfold searchRest
        rw [rows_at R.rows hp]
        dsimp only
        refine wpAny_bind (wpAny_holding ((Kd P w).eqBool hu (R.key p hmem) hx ?_))
        refine wpAny_bind (wpAny_setState_of ho hd R.fits ?_)
        dsimp only
        by_cases hkk : p.2 = k
        · exact wp_if_pos (by simp [hkk]) (wpAny_pure (hin (List.mem_map.mpr ⟨p, hmem, hkk⟩)))
        · refine wp_if_neg (by simp [hkk]) ?_
          try refine wpAny_bind (wpAny_pure ?_)
          rw [sameMem]
          dsimp only
          have hsl : t.slot (way t.mask (kh w k) (c + q)) = .live i := slot_live R.tab.ris hi
          simp only [if_true, hsl, rows_at R.rows hp]
          refine wpAny_bind (wpAny_isSame_ref_self (wpAny_bind (wpAny_pure ?_)))
          simp only [if_true]
          refine wp_if_neg (by simp [hkk]) ?_
          refine search_on R hx hu hKf hK hKb hin hout f (c + (q + 1)) _ rfl (by omega) (by omega) fun i0 p0 h0 hk0 => ?_
          obtain ⟨d, a1, a2, a3⟩ := hre i0 p0 h0 hk0
          refine ⟨d, ?_, a2, a3⟩
          rcases Nat.lt_trichotomy d (c + q) with z | z | z
          · exact absurd ((hashAt i0 p0 h0).trans (congrArg (kh w) hk0)) (hno (d - c) i0 (by omega) (by rw [e1, show c + (d - c) = d by omega]; exact a3))
          · rw [z] at a3
            have s0 := slot_live R.tab.ris a3
            rw [hsl] at s0
            injection s0 with s0
            rw [← s0, hp] at h0
            exact absurd ((congrArg Prod.snd (Option.some.inj h0)).trans hk0) hkk
          · omega
      by_cases hl : t.led = true
      · refine wp_if_neg (by simp [hl]) ?_
        try refine wpAny_bind (wpAny_pure ?_)
        exact more
      · refine wp_if_pos (by simp [hl]) (wpAny_bind (seen_no hx (fun y hy => ?_) ?_))
        · obtain ⟨e, he, ee⟩ := List.mem_map.mp hy
          have he1 : e ∈ es ∧ e.1 = kh w k := by simpa using he
          have he2 : e ∈ es.toList := by simpa using he1.1
          rw [R.rows] at he2
          obtain ⟨p2, hp2, e2⟩ := List.mem_map.mp he2
          exact ⟨p2.2, p2.1, by rw [← ee, ← e2], R.key p2 hp2⟩
        · refine wp_if_neg (by decide) ?_
          try refine wpAny_bind (wpAny_pure ?_)
          exact more
    · have pr : t.probe (fun i => (es[i]?.map (·.1)).getD 0) (kh w k) (stp t w k c) = _ := hpr
      rw [hst, pr]
      dsimp only
      rw [e1, eK]
      refine wpAny_pure (hout fun hm => ?_)
      obtain ⟨p0, h0, hk0⟩ := List.mem_map.mp hm
      obtain ⟨i0, hi0, e0⟩ := List.getElem_of_mem h0
      have h00 : L[i0]? = some p0 := by rw [List.getElem?_eq_getElem hi0, e0]
      obtain ⟨d, a1, a2, a3⟩ := hre i0 p0 h00 hk0
      exact hno (d - c) i0 (by omega) (by rw [e1, show c + (d - c) = d by omega]; exact a3) ((hashAt i0 p0 h00).trans (congrArg (kh w) hk0))
end
end Sn
set_option Elab.async false
set_option linter.all false
set_option maxRecDepth 100000
set_option maxHeartbeats 2000000
namespace Sn
open PySem PySem.Spec PyProof.Rows L2
section
variable {P : Program} {w : World} {A : Around} {E : Value → Shared → Prop} {s : Shared} {a : Addr} {L : List (Addr × NestedKey)} {es : Array (Int × Value)} {ep : Nat} {t : SetTable}
theorem search_key (R : St P w s.heap a L es ep t) {x : Addr} {k : NestedKey} (hx : IsK P w s.heap k x) (hu : (Kd P w).room A) {Q : SetFound → Shared → Prop} (hin : k ∈ L.map (·.2) → Q (.there none) s)
    (hout : ∀ K, k ∉ L.map (·.2) → way t.mask (kh w k) K ∉ t.place.toList → (∀ c, c < K → way t.mask (kh w k) c ∈ t.place.toList) → Q (.free (way t.mask (kh w k) K) false) s) :
    wpAny (model P w) A (setSearch a (.ref x) (kh w k) true) Q E s := by
  have hroom := R.room
  obtain ⟨K, hKf, hK, hKb⟩ := R.tab.first (by rw [List.length_map]; omega) (kh w k)
  have hbig : K < 100000 := by
    have hm := R.tab.mok.le
    have : 10 * SetTable.turns t.mask ≤ 50000 := by unfold SetTable.turns; omega
    omega
  unfold setSearch
  refine search_on R hx hu hKf hK hKb hin (fun hn => hout K hn hK hKb) 100000 0 none rfl (Nat.zero_le _) (by omega) fun i p hp hk => ?_
  have hi : (L.map fun p => kh w p.2)[i]? = some (kh w k) := by rw [List.getElem?_map, hp, ← hk]; rfl
  have hil : i < t.place.toList.length := by
    rw [R.tab.sz, List.length_map]
    exact (List.getElem?_eq_some_iff.mp hp).1
  have hj := List.getElem?_eq_getElem hil
  obtain ⟨c, hc, e⟩ := R.tab.before hK hi hj
  exact ⟨c, Nat.zero_le _, hc, by rw [hj, e]⟩
/-- a key isn't the set -/
theorem isK_but {h h' : Heap} {k : NestedKey} {b : Addr} {o : Obj} (hb : IsK P w h k b) (ho : h.get? a = some o) (hd : o.data = .set es ep t) (hs : Heap.SameBut a h h') : IsK P w h' k b :=
  nestedKind_stays.stays (fun c u vs n e q => (hs.2 c (fun z => by
    rw [z, ho] at e
    cases e
    rw [hd] at q
    cases q)).trans e) hb
theorem rowsK_put (L : List (Addr × NestedKey)) (p : Nat) (x : Addr) (k : NestedKey) : rowsK w (L.take p ++ (x, k) :: L.drop p) = (rowsK w L).take p ++ (kh w k, Value.ref x) :: (rowsK w L).drop p := by
  simp only [rowsK, List.map_append, List.map_cons, List.map_take, List.map_drop]
theorem put_perm' {α : Type} (L : List α) (p : Nat) (x : α) : (L.take p ++ x :: L.drop p).Perm (x :: L) := by
  have h : (L.take p ++ x :: L.drop p).Perm (x :: (L.take p ++ L.drop p)) := List.perm_middle
  rwa [List.take_append_drop] at h
theorem take_fm {α : Type} (L : List α) : ∀ n, n ≤ L.length → (List.range n).filterMap (fun i => L[i]?) = L.take n
  | 0, _ => by simp
  | n + 1, h => by
    rw [List.range_succ, List.filterMap_append, take_fm L n (Nat.le_of_lt h), List.take_succ, List.getElem?_eq_getElem h]
    simp [List.getElem?_eq_getElem h]
/-- the rows in another order -/
theorem rows_order {L : List (Addr × NestedKey)} {es : Array (Int × Value)} {order : Array Nat} (hr : es.toList = rowsK w L) (hp : order.toList.Perm (List.range L.length)) :
    ∃ L2, (order.filterMap (es[·]?)).toList = rowsK w L2 ∧ L2.Perm L ∧ (L2.map fun p => kh w p.2) = order.toList.map fun i => (es.map (·.1)).getD i 0 := by
  have hsz := rows_len hr
  have go : ∀ l : List Nat, (∀ i ∈ l, i < L.length) → l.filterMap (fun i => es[i]?) = rowsK w (l.filterMap (fun i => L[i]?)) ∧ ((l.filterMap (fun i => L[i]?)).map fun p => kh w p.2) = l.map fun i => (es.map (·.1)).getD i 0 := by
    intro l
    induction l with
    | nil => exact fun _ => ⟨rfl, rfl⟩
    | cons i l ih =>
      intro hl
      obtain ⟨e1, e2⟩ := ih fun j hj => hl j (List.mem_cons_of_mem _ hj)
      have hi := List.getElem?_eq_getElem (hl i List.mem_cons_self)
      have he := rows_at hr hi
      rw [List.filterMap_cons_some he, List.filterMap_cons_some hi, List.map_cons, List.map_cons, e1, e2]
      refine ⟨rfl, ?_⟩
      have e5 : (es.map (·.1))[i]? = some (kh w (L[i]'(hl i List.mem_cons_self)).2) := by rw [Array.getElem?_map, he]; rfl
      rw [show (es.map (·.1)).getD i 0 = kh w (L[i]'(hl i List.mem_cons_self)).2 by simp [Array.getD_eq_getD_getElem?, e5]]
  obtain ⟨e1, e2⟩ := go order.toList fun i hi => List.mem_range.mp (hp.mem_iff.mp hi)
  refine ⟨_, by first | (rw [Array.toList_filterMap]; exact e1) | simpa using e1, ?_, e2⟩
  have h1 := hp.filterMap (fun i => L[i]?)
  rwa [take_fm L _ (Nat.le_refl _), List.take_length] at h1
/-- the table laid anew -/
theorem relay_key {o : Obj} (ho : s.heap.get? a = some o) (hex : o.ExactSet) (hd : o.data = .set es ep t) (hrows : es.toList = rowsK w L) (T : Tb t (L.map fun p => kh w p.2)) (hfl : L.length ≤ t.mask)
    (hld : w.params.followText "set-order" = true ∨ t.led = true) (nd : (L.map (·.2)).Nodup) (key : ∀ p ∈ L, IsK P w s.heap p.2 p.1) {wanted M : Nat} (hw : SetTable.sizeAbove wanted = M + 1) (hM : Mk M) (hm4 : M = 7 ∨ M = 31 ∨ M = 127 ∨ M = 511) (hn : L.length * 5 < M * 3) {Q : Unit → Shared → Prop}
    (hQ : ∀ h' L' es' ep' t', Heap.SameBut a s.heap h' → St P w h' a L' es' ep' t' → L'.Perm L → Q () { s with heap := h' }) : wpAny (model P w) A (setRelay a wanted) Q E s := by
  have hsl := rows_len hrows
  have hMle := hM.le
  obtain ⟨t2, order, e, hp, T2, em⟩ := relay_tb t (hs := es.map (·.1)) (wanted := wanted) (M := M) (by rw [hw]; rfl) hM (by rw [Array.size_map, hsl]; omega)
  rw [Array.size_map, hsl] at hp
  obtain ⟨L2, r1, r2, r3⟩ := rows_order hrows hp
  rw [← r3] at T2
  have hs2 : (order.filterMap (es[·]?)).size = es.size := by rw [rows_len r1, r2.length_eq, hsl]
  rw [setRelay_eq]
  refine wpAny_bind (wpAny_setState_of ho hd (by rw [hsl]; exact T.fits (by simp) hfl) ?_)
  dsimp only
  refine wp_if_neg (by rw [hw, sizeLine_eq]; omega) ?_
  try refine wpAny_bind (wpAny_pure ?_)
  rw [e]
  dsimp only
  refine wpAny_bind (wp_if_neg (by rw [hs2]; simp) ?_)
  try refine wpAny_bind (wpAny_pure ?_)
  refine wpAny_pure ?_
  dsimp only
  refine wpAny_storeSet_of ho hd ?_ (by rw [hs2, hsl, sizeLine_eq]; omega)
  have sb : Heap.SameBut a s.heap (s.heap.update a (Obj.putSet (order.filterMap (es[·]?)) t2)) := Heap.SameBut.update ..
  exact hQ _ L2 _ (ep + 1) t2 sb ⟨⟨_, store_at ho hd, ⟨hex.1, hex.2.1, hex.2.2⟩, rfl⟩, r1, T2, (r2.map (·.2)).nodup_iff.mpr nd, fun p hpm => isK_but (key p (r2.mem_iff.mp hpm)) ho hd sb, by rw [r2.length_eq, em]; exact hn, by rw [em]; exact hm4, hld.imp id fun z => by rw [(relaid_ris e).2]; exact z⟩ r2
/-- stored, and laid anew where it is too full -/
theorem add_tail {o : Obj} (ho : s.heap.get? a = some o) (hex : o.ExactSet) (hd : o.data = .set es ep t) {es1 : Array (Int × Value)} {t1 : SetTable} {L1 : List (Addr × NestedKey)} {n : Nat} (hrows : es1.toList = rowsK w L1) (T : Tb t1 (L1.map fun p => kh w p.2))
    (hmk : t1.mask = 7 ∨ t1.mask = 31 ∨ t1.mask = 127 ∨ t1.mask = 511) (hfl : t1.fill = n + 1) (hl : L1.length = n + 1) (hroom : n * 5 < t1.mask * 3) (hfew : n < 300) (hld : w.params.followText "set-order" = true ∨ t1.led = true) (nd : (L1.map (·.2)).Nodup)
    (key : ∀ h', Heap.SameBut a s.heap h' → ∀ p ∈ L1, IsK P w h' p.2 p.1) {Q : Bool → Shared → Prop}
    (hQ : ∀ h' L' es' ep' t', Heap.SameBut a s.heap h' → St P w h' a L' es' ep' t' → L'.Perm L1 → Q true { s with heap := h' }) :
    wpAny (model P w) A (do
      storeSet a es1 t1
      if (!false && t1.tooFull) = true then do
        setRelay a (SetTable.grown (n + 1))
        pure true
      else pure true) Q E s := by
  have hes := rows_len hrows
  refine wpAny_bind (wpAny_storeSet_of ho hd ?_ (by rw [hes, hl, sizeLine_eq]; omega))
  have sb : Heap.SameBut a s.heap (s.heap.update a (Obj.putSet es1 t1)) := Heap.SameBut.update ..
  have ho1 := store_at (es' := es1) (t' := t1) ho hd
  generalize s.heap.update a (Obj.putSet es1 t1) = h1 at sb ho1 ⊢
  by_cases hf : t1.tooFull = true
  · refine wp_if_pos (by simp [hf]) ?_
    have hfull : (n + 1) * 5 ≥ t1.mask * 3 := by
      have h := hf
      unfold SetTable.tooFull at h
      rw [decide_eq_true_eq, hfl] at h
      exact h
    obtain ⟨M, hw, hM, hm4, hn⟩ : ∃ M, SetTable.sizeAbove (SetTable.grown (n + 1)) = M + 1 ∧ Mk M ∧ (M = 7 ∨ M = 31 ∨ M = 127 ∨ M = 511) ∧ (n + 1) * 5 < M * 3 := by
      rcases hmk with e | e | e | e
      · obtain rfl : n = 4 := by omega
        exact ⟨31, size20, mk_of (.inr (.inl rfl)), .inr (.inl rfl), by decide⟩
      · obtain rfl : n = 18 := by omega
        exact ⟨127, size76, mk_of (.inr (.inr rfl)), .inr (.inr (.inl rfl)), by decide⟩
      · obtain rfl : n = 76 := by omega
        exact ⟨511, size308, mk511, .inr (.inr (.inr rfl)), by decide⟩
      · omega
    refine wpAny_bind (relay_key (s := { s with heap := h1 }) ho1 ⟨hex.1, hex.2.1, hex.2.2⟩ rfl hrows T (by omega) hld nd (key h1 sb) hw hM hm4 (by rw [hl]; exact hn) fun h2 L2 es2 ep2 t2 sb2 R2 pm2 => ?_)
    exact wpAny_pure (hQ h2 L2 es2 ep2 t2 (sb.trans sb2) R2 pm2)
  · refine wp_if_neg (by simp [hf]) ?_
    refine wpAny_pure (hQ h1 L1 es1 (ep + 1) t1 sb ⟨⟨_, ho1, ⟨hex.1, hex.2.1, hex.2.2⟩, rfl⟩, hrows, T, nd, key h1 sb, ?_, hmk, hld⟩ (List.Perm.refl _))
    have h := hf
    unfold SetTable.tooFull at h
    rw [decide_eq_true_eq, hfl] at h
    omega
/-- one more -/
theorem add_key (R : St P w s.heap a L es ep t) {x : Addr} {k : NestedKey} (hx : IsK P w s.heap k x) (hu : (Kd P w).room A) (hfew : L.length < 300) {Q : Bool → Shared → Prop}
    (hQ : ∀ b h' L' es' ep' t', Heap.SameBut a s.heap h' → St P w h' a L' es' ep' t' → (k ∈ L.map (·.2) → L' = L) → (k ∉ L.map (·.2) → L'.Perm ((x, k) :: L)) → Q b { s with heap := h' }) :
    wpAny (model P w) A (setAddHashed a (.ref x) (kh w k)) Q E s := by
  obtain ⟨o, ho, hex, hd⟩ := R.ob
  have hsl := rows_len R.rows
  have hroom := R.room
  unfold setAddHashed
  refine wpAny_holding ?_
  rw [show (100000 : Nat) = 99999 + 1 from rfl, setAddHashedIn_succ]
  refine wpAny_bind (wpAny_setState_of ho hd R.fits ?_)
  dsimp only
  refine wp_if_neg (by simp [byScan, Value.scannable]) ?_
  try refine wpAny_bind (wpAny_pure ?_)
  refine wpAny_bind (search_key R hx hu (fun hm => ?_) fun K hm hK hb => ?_)
  · dsimp only
    exact wpAny_pure (hQ false s.heap L es ep t (Heap.SameBut.refl a s.heap) R (fun _ => rfl) fun z => absurd hm z)
  · dsimp only
    refine wpAny_bind (wpAny_setState_of ho hd R.fits ?_)
    dsimp only
    obtain ⟨q1, q2, q3, q4⟩ := R.tab.put hK hb
    have hl0 : (t.put (way t.mask (kh w k) K)).1.led = t.led := rfl
    generalize hpt : t.put (way t.mask (kh w k) K) = pt at q1 q2 q3 q4 hl0 ⊢
    obtain ⟨t1, p⟩ := pt
    have hl1 : t1.led = t.led := hl0
    dsimp only at q1 q2 q3 q4 ⊢
    have pm := put_perm' L p (x, k)
    have hlen : (L.take p ++ (x, k) :: L.drop p).length = L.length + 1 := pm.length_eq
    have hrows : (SetTable.insertAt es p (kh w k, Value.ref x)).toList = rowsK w (L.take p ++ (x, k) :: L.drop p) := by rw [SetTable.toList_insertAt, rowsK_put, R.rows]
    have hmap : (L.take p ++ (x, k) :: L.drop p).map (fun p => kh w p.2) = (L.map fun p => kh w p.2).take p ++ kh w k :: (L.map fun p => kh w p.2).drop p := by simp only [List.map_append, List.map_cons, List.map_take, List.map_drop]
    rw [← hmap] at q2
    rw [List.length_map] at q4
    have nd1 : ((L.take p ++ (x, k) :: L.drop p).map (·.2)).Nodup := (pm.map (·.2)).nodup_iff.mpr (List.nodup_cons.mpr ⟨hm, R.nd⟩)
    have key1 : ∀ h', Heap.SameBut a s.heap h' → ∀ p' ∈ (L.take p ++ (x, k) :: L.drop p), IsK P w h' p'.2 p'.1 := fun h' sb p' hp => by
      rcases List.mem_cons.mp (pm.mem_iff.mp hp) with e | hp
      · rw [e]; exact isK_but hx ho hd sb
      · exact isK_but (R.key p' hp) ho hd sb
    have fin : ∀ t2 : SetTable, Tb t2 ((L.take p ++ (x, k) :: L.drop p).map fun p => kh w p.2) → t2.mask = t.mask → t2.fill = L.length + 1 → t2.led = t.led → wpAny (model P w) A (do
        storeSet a (SetTable.insertAt es p (kh w k, Value.ref x)) t2
        if (!false && t2.tooFull) = true then do
          setRelay a (SetTable.grown (L.length + 1))
          pure true
        else pure true) Q E s := fun t2 T2 m2 f2 l2 =>
      add_tail ho hex hd hrows T2 (by rw [m2]; exact R.msk) f2 hlen (by rw [m2]; exact hroom) hfew (R.led.imp id fun z => by rw [l2]; exact z) nd1 key1 fun h' L' es' ep' t' sb R' pm' => hQ true h' L' es' ep' t' sb R' (fun z => absurd z hm) fun _ => pm'.trans pm
    rw [hsl]
    by_cases hp1 : t1.plain = true
    · refine wp_if_pos hp1 (wpAny_bind (someB_key k _ 8 s hx.1 hx.2 _ _ _ fun b => ?_))
      cases b with
      | true => exact fin t1 q2 q3 q4 hl1
      | false => exact fin { t1 with plain := false } ⟨q2.ris, q2.dm, q2.sz, q2.mok, q2.bd, q2.reach⟩ q3 q4 hl1
    · refine wp_if_neg hp1 (wpAny_bind (wpAny_pure ?_))
      exact fin t1 q2 q3 q4 hl1
end
end Sn
set_option Elab.async false
set_option linter.all false
set_option maxRecDepth 100000
set_option maxHeartbeats 4000000
namespace Sn
open PySem PySem.Spec PyProof.Rows L2
/-! ### set(xs), by what one more item does -/
/-- J i: what the set at S is behind the first i items -/
structure Adder (P : Program) (w : World) (S : Addr) (items : Array Value) (h0 : Heap) (J : Nat → Heap → Prop) : Prop where
  keep : ∀ i h h', J i h → (∀ o, h.get? S = some o → h'.get? S = some o) → (∀ b o, h0.get? b = some o → h'.get? b = some o) → J i h'
  add : ∀ (A : Around) (E : Value → Shared → Prop) (s : Shared) (i : Nat) (v : Value) (Q : Bool → Shared → Prop), items[i]? = some v → A.units + 8 < cLine → J i s.heap → (∀ b o, h0.get? b = some o → s.heap.get? b = some o) →
    (∀ b h' tk, s.toks ≤ tk → Heap.SameBut S s.heap h' → J (i + 1) h' → Q b { s with heap := h', toks := tk }) → wpAny (model P w) A (setAdd S v) Q E s
section
variable {P : Program} {w : World} {A : Around} {E : Value → Shared → Prop} {s : Shared}
theorem set_loop {I : Addr} {fp wr : List Addr} {G : Array GenState → Array GenState → Prop} {St : Nat → Shared → Prop} {R : Result → Shared → Prop} {items : Array Value} {S : Addr} {h0 : Heap} {J : Nat → Heap → Prop}
    (W : WalksS P w A.in1 I fp wr G items.size (fun i v => items[i]? = some v) St) (D : Adder P w S items h0 J) (hSf : S ∉ fp) (hS0 : h0.get? S = none) (hw0 : ∀ b ∈ wr, h0.get? b = none) (hu : A.in1.units + 8 < cLine) :
    ∀ (k i : Nat) (s : Shared), items.size - i = k → i ≤ items.size → St i s → (∀ b o, h0.get? b = some o → s.heap.get? b = some o) → J i s.heap →
      (∀ s', Moved (S :: wr) G s s' → J items.size s'.heap → (∀ b o, h0.get? b = some o → s'.heap.get? b = some o) → R (.ok (.ret .none)) s') →
      codeAny (model P w) A (.builtin "set.update.loop" ⟨[.ref S, .ref I], []⟩) R s := by
  have hSw : S ∉ wr := fun h => hSf (W.sub _ h)
  have hsub : ∀ b ∈ wr, b ∈ S :: wr := fun b hb => List.mem_cons_of_mem _ hb
  have old : ∀ {s s' : Shared}, Moved wr G s s' → (∀ b o, h0.get? b = some o → s.heap.get? b = some o) → ∀ b o, h0.get? b = some o → s'.heap.get? b = some o := fun hm hkp b o e =>
    hm.heap b o (fun hb => by rw [hw0 b hb] at e; cases e) (hkp b o e)
  intro k
  induction k with
  | zero =>
    intro i s hk hi hst hkp hJ hR
    obtain rfl : i = items.size := by omega
    refine codeAny_builtin F.entry_set_update_loop ?_
    rw [Around.under_plainId F.plain_set_update_loop _]
    show wpAny _ A.in1 (pyNext (.ref I) >>= _) _ _ s
    refine wpAny_bind (W.done s _ _ hst fun s' hm => ?_)
    show wpAny _ A.in1 (ret Value.none) _ _ s'
    have hkp' := old hm hkp
    exact wpAny_pure (hR s' (hm.mono hsub) (D.keep _ _ _ hJ (fun o e => hm.heap S o hSw e) hkp') hkp')
  | succ k ih =>
    intro i s hk hi hst hkp hJ hR
    have hlt : i < items.size := by omega
    refine codeAny_builtin F.entry_set_update_loop ?_
    rw [Around.under_plainId F.plain_set_update_loop _]
    show wpAny _ A.in1 (pyNext (.ref I) >>= _) _ _ s
    refine wpAny_bind (W.item i s _ _ hlt hst fun v s' hv hst' hm => ?_)
    have hkp' := old hm hkp
    have hJ' := D.keep _ _ _ hJ (fun o e => hm.heap S o hSw e) hkp'
    show wpAny _ A.in1 (holding [v] (setAdd S v) >>= _) _ _ s'
    refine wpAny_bind (wpAny_holding (D.add A.in1 _ s' i v _ hv hu hJ' hkp' fun b h' tk htk hsb hJ2 => ?_))
    have hkp2 : ∀ b o, h0.get? b = some o → h'.get? b = some o := fun b o e => (hsb.2 b (fun z => by rw [z, hS0] at e; cases e)).trans (hkp' b o e)
    refine wpAny_pure ⟨plainId_quiet F.plain_set_update_loop _, ih (i + 1) _ (by omega) hlt (W.frame _ s' _ _ hst' htk fun b hb o e => ?_) hkp2 hJ2 fun s'' hm'' hJ'' hkp'' => ?_⟩
    · rw [hsb.2 b (fun z : b = S => hSf (by rw [← z]; exact hb))]; exact e
    · refine hR s'' (Moved.trans W.gtrans ((hm.mono hsub).then_heap htk fun b o hb e => ?_) hm'') hJ'' hkp''
      rw [hsb.2 b (fun z : b = S => hb (by rw [z]; exact List.mem_cons_self))]; exact e
/-- a new set, as the model makes it -/
abbrev newSetObj (w : World) : Obj := { cls := .type "set", dict := none, data := .set #[] 0 (.fresh 0 0 (!w.params.followText "set-order")) }
theorem call_set_by {l : Addr} {items : Array Value} {J : Nat → Heap → Prop} {Q : Value → Shared → Prop} (hh : A.handled = none) (hl : s.heap.IsList l items) (D : Adder P w s.heap.objs.size items s.heap J)
    (h0 : ∀ h', h'.get? s.heap.objs.size = some (newSetObj w) → (∀ b o, s.heap.get? b = some o → h'.get? b = some o) → J 0 h') (hu : A.units + 12 < cLine)
    (h : ∀ (h' : Heap) (tk : Nat), J items.size h' → (∀ b o, s.heap.get? b = some o → h'.get? b = some o) → Q (.ref s.heap.objs.size) { s with heap := h', toks := tk }) :
    wpAny (model P w) A (call (.type "set") [.ref l]) Q E s := by
  obtain ⟨c, tl, hmro⟩ := F.called_set.mro
  have hmade := F.called_set.made
  have hsub := F.called_set.sub
  refine wpAny_call (codeAny_of_tree ?_)
  show wpAny _ _ (callAny (.type "set") _) _ _ _
  refine wpAny_pure ⟨Code.quiet_builtin _ (by decide +kernel), codeAny_builtin F.entry_type_call ?_⟩
  rw [Around.under_plain (weight_type_call_type "set" [.ref l] []) rfl]
  have h1 := F.called_set.notType
  have h2 := F.called_set.canCreate
  have hct := F.typeCall_set_1 (.ref l)
  repeat (any_goals (first | assumption | wp_step))
  refine codeAny_mono (code_set_led1 (.ref l) (E := E) (Q₁ := fun obj s₁ => obj = .ref s.heap.objs.size ∧ s₁ = { s with heap := s.heap.push (newSetObj w) }) ⟨rfl, rfl⟩) fun r s₁ hr => ?_
  cases r with
  | error e => exact hr
  | ok fl =>
    cases fl with
    | ret obj =>
      obtain ⟨rfl, rfl⟩ := hr
      have hS : (s.heap.push (newSetObj w)).get? s.heap.objs.size = some (newSetObj w) := Heap.get?_push_size _ rfl
      have hT : Shared.TypeIs { s with heap := s.heap.push (newSetObj w) } (.ref s.heap.objs.size) "set" := ⟨_, hS, rfl⟩
      have hli := F.called_set.init.lookup
      have hbi := F.called_set.init.bind (.ref s.heap.objs.size)
      repeat (any_goals (first | assumption | wp_step))
      refine codeAny_mono (codeAny_call_builtin (R := wants (fun r s₂ => r = .none ∧ ∃ h' tk, s₂ = { s with heap := h', toks := tk } ∧ J items.size h' ∧ (∀ b o, s.heap.get? b = some o → h'.get? b = some o)) E) F.called_set.init.plain F.entry_set_init (check_set_init_1 hT ?_)) fun r₂ s₂ hr₂ => ?_
      · obtain ⟨ol, hol, hcl, nl, hdl⟩ := hl
        obtain ⟨ocls, odict, odata, oslots⟩ := ol
        simp only at hcl hdl
        subst hcl; subst hdl
        have hol' : (s.heap.push (newSetObj w)).get? l = some { cls := .type "list", dict := odict, data := .seq items nl, slots := oslots } := Heap.get?_push_of_some _ hol
        have hsls := F.sub_list_set
        have hslf := F.sub_list_frozenset
        have hne : (Value.type "list" == Value.type "dict") = false := by decide
        have hl1 : (s.heap.push (newSetObj w)).IsList l items := ⟨_, hol', rfl, nl, rfl⟩
        unfold Builtin.«set.__init__» noKeywords Builtin.Frozenset.updateFrom
        generalize hPI : pyIter = PI
        wp_walk
        subst hPI
        refine wpAny_pyIter_list hl1 ?_
        refine wpAny_bind (wpAny_runValue ?_)
        have hlS : l < s.heap.objs.size := Heap.lt_size hol
        have hh3 : A.in1.in1.in1.handled = none := by simp [hh]
        have hneI : l ≠ (s.heap.push (newSetObj w)).objs.size := by
          rw [Heap.size_push]; exact Nat.ne_of_lt (Nat.lt_succ_of_lt hlS)
        have hSf : s.heap.objs.size ∉ [(s.heap.push (newSetObj w)).objs.size, l] := by
          rw [Heap.size_push]
          simp only [List.mem_cons, List.mem_singleton, List.not_mem_nil, or_false, not_or]
          exact ⟨Nat.ne_of_lt (Nat.lt_succ_self _), Nat.ne_of_gt hlS⟩
        have none_of : ∀ b, s.heap.objs.size ≤ b → s.heap.get? b = none := fun b hb => by
          cases q : s.heap.get? b with
          | none => rfl
          | some o => exact absurd (Nat.lt_of_lt_of_le (Heap.lt_size q) hb) (Nat.lt_irrefl _)
        have kp0 : ∀ b o, s.heap.get? b = some o → ((s.heap.push (newSetObj w)).push { cls := .type "list_iterator", data := .fields #[.ref l, .int 0 0] }).get? b = some o := fun b o e => Heap.get?_push_of_some _ (Heap.get?_push_of_some _ e)
        refine set_loop ((Walks.list hh3 _ l hneI items).toS) D hSf (none_of _ (Nat.le_refl _)) (fun b hb => none_of b (by
            rw [List.mem_singleton.mp hb, Heap.size_push]
            exact Nat.le_succ _)) (by show A.units + 1 + 1 + 1 + 8 < cLine; omega) (items.size - 0) 0 _ (by omega) (Nat.zero_le _)
          ⟨⟨_, Heap.get?_push_size _ rfl, rfl, rfl⟩, (hl1.push _)⟩ kp0 (h0 _ (Heap.get?_push_of_some _ hS) kp0) ?hR
        case hR =>
          intro s' hm hJ' hkp
          obtain ⟨h', g2, d', tk', os'⟩ := s'
          have eg : g2 = s.gens := hm.gens
          have ed : d' = s.drawn := hm.drawn
          have eo : os' = s.os := hm.os
          subst eg; subst ed; subst eo
          show wpAny _ _ _ _ _ _
          refine wpAny_pure ?_
          show wpAny _ _ (ret Value.none) _ _ _
          exact wpAny_pure ⟨rfl, h', tk', rfl, hJ', hkp⟩
      · cases r₂ with
        | error e => exact hr₂
        | ok fl₂ =>
          cases fl₂ with
          | ret r =>
            obtain ⟨rfl, h', tk, rfl, hJ', hk'⟩ := hr₂
            repeat (any_goals (first | assumption | wp_step))
            exact h _ _ hJ' hk'
          | _ => exact hr₂.elim
    | _ => exact hr.elim
end
end Sn
set_option Elab.async false
set_option linter.all false
set_option maxRecDepth 100000
set_option maxHeartbeats 4000000
namespace Sn
open PySem PySem.Spec PyProof.Rows L2
/-! ### how many there are -/
theorem le_of_sub {α : Type} [DecidableEq α] : ∀ (l m : List α), l.Nodup → (∀ x ∈ l, x ∈ m) → l.length ≤ m.length
  | [], _, _, _ => Nat.zero_le _
  | x :: l, m, hn, hs => by
    obtain ⟨h1, h2⟩ := List.nodup_cons.mp hn
    have hx := hs x List.mem_cons_self
    have ih := le_of_sub l (m.erase x) h2 fun y hy => (List.mem_erase_of_ne (show y ≠ x from fun e => h1 (by rw [← e]; exact hy))).mpr (hs y (List.mem_cons_of_mem _ hy))
    rw [List.length_erase_of_mem hx] at ih
    have := List.length_pos_of_mem hx
    simp only [List.length_cons]
    omega
theorem perm_of_sub {α : Type} [DecidableEq α] : ∀ (l m : List α), l.Nodup → (∀ x ∈ l, x ∈ m) → m.length ≤ l.length → l.Perm m
  | [], m, _, _, h => by
    obtain rfl : m = [] := List.length_eq_zero_iff.mp (Nat.le_zero.mp h)
    exact List.Perm.refl _
  | x :: l, m, hn, hs, h => by
    obtain ⟨h1, h2⟩ := List.nodup_cons.mp hn
    have hx := hs x List.mem_cons_self
    have ih := perm_of_sub l (m.erase x) h2 (fun y hy => (List.mem_erase_of_ne (show y ≠ x from fun e => h1 (by rw [← e]; exact hy))).mpr (hs y (List.mem_cons_of_mem _ hy))) (by
      rw [List.length_erase_of_mem hx]
      simp only [List.length_cons] at h
      omega)
    exact (ih.cons x).trans (List.perm_cons_erase hx).symm
/-- D has no two alike and the items of l: told by its length -/
theorem count_is {α : Type} [DecidableEq α] {D l : List α} (hn : D.Nodup) (h : ∀ x, x ∈ D ↔ x ∈ l) : D.length ≤ l.length ∧ (D.length = l.length ↔ l.Nodup) := by
  refine ⟨le_of_sub D l hn fun x hx => (h x).mp hx, fun e => ?_, fun hl => ?_⟩
  · exact (perm_of_sub D l hn (fun x hx => (h x).mp hx) (by omega)).nodup_iff.mp hn
  · exact Nat.le_antisymm (le_of_sub D l hn fun x hx => (h x).mp hx) (le_of_sub l D hl fun x hx => (h x).mpr hx)
theorem take_more {α : Type} {l : List α} {i : Nat} {x : α} (h : l[i]? = some x) : l.take (i + 1) = l.take i ++ [x] := by
  rw [List.take_add_one, h]
  rfl
section
variable {P : Program} {w : World} {A : Around} {E : Value → Shared → Prop} {s : Shared}
/-! ### keys -/
/-- what the set has got from the first items -/
structure Has (P : Program) (w : World) (h : Heap) (S : Addr) (ks : List (Addr × NestedKey)) (i : Nat) : Prop where
  ex : ∃ L es ep t, St P w h S L es ep t ∧ (∀ p ∈ L, p ∈ ks) ∧ (∀ k, k ∈ L.map (·.2) ↔ k ∈ (ks.take i).map (·.2)) ∧ L.length ≤ i
theorem st_new {h : Heap} {S : Addr} (ho : h.get? S = some (newSetObj w)) : St P w h S [] #[] 0 (.fresh 0 0 (!w.params.followText "set-order")) where
  ob := ⟨_, ho, ⟨rfl, rfl, rfl⟩, rfl⟩
  rows := rfl
  tab := ⟨List.Pairwise.nil, rfl, rfl, mk_of (.inl rfl), fun x hx => (by cases hx), fun i h j hi => (by simp at hi)⟩
  nd := List.nodup_nil
  key := fun p hp => (by cases hp)
  room := by show 0 * 5 < 7 * 3; decide
  msk := .inl rfl
  led := by
    show _ ∨ (!w.params.followText "set-order") = true
    cases w.params.followText "set-order"
    · exact .inr rfl
    · exact .inl rfl
theorem adder_keys {S : Addr} {items : Array Value} {h0 : Heap} (ks : List (Addr × NestedKey)) (hit : items.toList = ks.map fun p => Value.ref p.1) (hk : ∀ p ∈ ks, IsK P w h0 p.2 p.1) (hS : h0.get? S = none) (hfew : ks.length ≤ 300) : Adder P w S items h0 (fun i h => Has P w h S ks i) where
  keep := fun i h h' ⟨L, es, ep, t, R, hs, hm, hl⟩ kS kO => by
    obtain ⟨o, ho, r⟩ := R.ob
    exact ⟨L, es, ep, t, ⟨⟨o, kS o ho, r⟩, R.rows, R.tab, R.nd, fun p hp => nestedKind_stays.stays (fun b u vs n e q => kO b u e) (hk p (hs p hp)), R.room, R.msk, R.led⟩, hs, hm, hl⟩
  add := fun A E s i v Q hv hu ⟨L, es, ep, t, R, hs, hm, hl⟩ kO hQ => by
    have hv2 : items.toList[i]? = some v := by rw [Array.getElem?_toList]; exact hv
    rw [hit, List.getElem?_map] at hv2
    obtain ⟨p, hp, rfl⟩ := Option.map_eq_some_iff.mp hv2
    have hi := (List.getElem?_eq_some_iff.mp hp).1
    have hmem := List.mem_of_getElem? hp
    have hx : IsK P w s.heap p.2 p.1 := nestedKind_stays.stays (fun b u vs n e q => kO b u e) (hk p hmem)
    have hu' : (Kd P w).room A := hu
    unfold setAdd
    refine wpAny_holding (wpAny_bind ((Kd P w).pyHash hu' hx ?_))
    refine add_key (s := { s with toks := s.toks + (Kd P w).draws p.2 }) R hx hu' (by omega) fun b h' L' es' ep' t' hsb R' c1 c2 => ?_
    refine hQ b h' _ (Nat.le_add_right _ _) hsb ⟨L', es', ep', t', R', ?_, fun k => ?_, ?_⟩
    · rcases Classical.em (p.2 ∈ L.map (·.2)) with c | c
      · rw [c1 c]; exact hs
      · intro q hq
        rcases List.mem_cons.mp ((c2 c).mem_iff.mp hq) with e | hq
        · rw [e]; exact hmem
        · exact hs q hq
    · rw [take_more hp, List.map_append, List.mem_append, ← hm k]
      rcases Classical.em (p.2 ∈ L.map (·.2)) with c | c
      · rw [c1 c]
        exact ⟨.inl, fun z => z.elim id fun z => by
          obtain rfl : k = p.2 := by simpa using z
          exact c⟩
      · rw [((c2 c).map (·.2)).mem_iff]
        simp only [List.map_cons, List.map_nil, List.mem_cons, List.not_mem_nil, or_false]
        exact Or.comm
    · rcases Classical.em (p.2 ∈ L.map (·.2)) with c | c
      · rw [c1 c]; omega
      · rw [(c2 c).length_eq]; simp only [List.length_cons]; omega
/-! ### texts -/
structure HasS (P : Program) (w : World) (h : Heap) (S : Addr) (xs : List Str) (i : Nat) : Prop where
  ex : ∃ (F : Str → Bool) (D : List Str), h.SetOf (PySem.strKind P w) S F D.length ∧ D.Nodup ∧ (∀ x, x ∈ D ↔ x ∈ xs.take i) ∧ (∀ x, F x = true ↔ x ∈ D) ∧ D.length ≤ i
theorem adder_strs {S : Addr} {items : Array Value} {h0 : Heap} (xs : List Str) (hit : StrsAre items.toList xs) (hfew : xs.length ≤ 4000) : Adder P w S items h0 (fun i h => HasS P w h S xs i) where
  keep := fun i h h' ⟨F, D, R, hn, hm, hf, hl⟩ kS kO => by
    obtain ⟨o, es, ep, t, ho, r⟩ := R
    exact ⟨F, D, ⟨o, es, ep, t, kS o ho, r⟩, hn, hm, hf, hl⟩
  add := fun A E s i v Q hv hu ⟨F, D, R, hn, hm, hf, hl⟩ kO hQ => by
    have hv2 : items.toList[i]? = some v := by rw [Array.getElem?_toList]; exact hv
    obtain ⟨x, tk, rfl, hx⟩ : ∃ x tk, v = .str x tk ∧ xs[i]? = some x := by
      have go : ∀ {us : List Value} {ys : List Str}, StrsAre us ys → ∀ (i : Nat) (v : Value), us[i]? = some v → ∃ x tk, v = .str x tk ∧ ys[i]? = some x := by
        intro us ys hs
        induction hs with
        | nil => intro i v h; cases h
        | cons n t hr ih =>
          intro i v h
          cases i with
          | zero => cases h; exact ⟨_, _, rfl, rfl⟩
          | succ i => exact ih i v h
      exact go hit i v hv2
    have hi := (List.getElem?_eq_some_iff.mp hx).1
    unfold setAdd
    refine wpAny_holding (wpAny_bind ((PySem.strKind P w).pyHash (k := x) (strKind_is _ _ _ _) ?_))
    refine wpAny_setAddHashed_of (knd := PySem.strKind P w) (s := { s with toks := s.toks + 1 }) (strKind_is _ _ _ _) rfl R (by unfold scanBound; omega) fun h' hsb R' => ?_
    by_cases c : x ∈ D
    · have hF : F x = true := (hf x).mpr c
      rw [if_pos hF] at R'
      refine hQ _ h' _ (Nat.le_succ _) hsb ⟨_, D, R', hn, fun y => ?_, fun y => ?_, by omega⟩
      · rw [take_more hx, List.mem_append, ← hm y]
        exact ⟨.inl, fun z => z.elim id fun z => by
          obtain rfl : y = x := by simpa using z
          exact c⟩
      · rw [Bool.or_eq_true, hf y, decide_eq_true_eq]
        exact ⟨fun z => z.elim id fun z => z ▸ c, .inl⟩
    · have hF : F x = false := by
        cases e : F x with
        | false => rfl
        | true => exact absurd ((hf x).mp e) c
      rw [if_neg (by rw [hF]; exact Bool.false_ne_true)] at R'
      refine hQ _ h' _ (Nat.le_succ _) hsb ⟨_, x :: D, R', List.nodup_cons.mpr ⟨c, hn⟩, fun y => ?_, fun y => ?_, by simp only [List.length_cons]; omega⟩
      · rw [take_more hx, List.mem_append, List.mem_cons, hm y]
        simp only [List.mem_cons, List.not_mem_nil, or_false]
        exact Or.comm
      · rw [Bool.or_eq_true, hf y, decide_eq_true_eq, List.mem_cons]
        exact Or.comm
end
end Sn
set_option Elab.async false
set_option linter.all false
set_option maxRecDepth 100000
set_option maxHeartbeats 4000000
namespace Sn
open PySem PySem.Spec PyProof.Rows L2
/-! ### keys among the values -/
mutual
/-- the value is the key -/
def NkV (K : PySem.W.Frag) (H : Hp) : NestedKey → V → Prop
  | .none, v => v = .non
  | .num i, v => v = .int i
  | .text x, v => v = .str x
  | .tup ks, v => ∃ a xs, v = .ref a ∧ SqT K H a xs ∧ NkA K H ks xs
def NkA (K : PySem.W.Frag) (H : Hp) : List NestedKey → List V → Prop
  | [], xs => xs = []
  | k :: ks, xs => ∃ x r, xs = x :: r ∧ NkV K H k x ∧ NkA K H ks r
end
section
variable {X : Cx} {pins : List (Addr × Obj)} {σ : L2.St} {H : Hp} {s : Shared}
mutual
theorem nk_is (I : Inv X pins σ H s) : ∀ (k : NestedKey) (v : V) (u : Value), NkV X.K H k v → RelV v u → NestedIs s.heap k u
  | .none, _, _, h, r => by
    unfold NkV at h
    subst h
    cases r
    exact .none
  | .num i, _, _, h, r => by
    unfold NkV at h
    subst h
    obtain ⟨t, rfl⟩ := r
    exact .int i t
  | .text x, _, _, h, r => by
    unfold NkV at h
    subst h
    obtain ⟨t, rfl⟩ := r
    exact .text x t
  | .tup ks, _, _, h, r => by
    unfold NkV at h
    obtain ⟨a, xs, rfl, hs, ha⟩ := h
    cases r
    obtain ⟨its, rv, ⟨o, ho, hc, n, hd⟩, _⟩ := I.tuple hs
    exact .tup ho hc hd (by simpa using nk_all I ks xs its ha rv)
theorem nk_all (I : Inv X pins σ H s) : ∀ (ks : List NestedKey) (xs : List V) (us : List Value), NkA X.K H ks xs → Vals xs us → NestedAll s.heap ks us
  | [], _, _, h, r => by
    unfold NkA at h
    subst h
    cases r
    exact .nil
  | k :: ks, _, _, h, r => by
    unfold NkA at h
    obtain ⟨x, q, rfl, h1, h2⟩ := h
    cases r with
    | cons r1 r2 => exact .cons (nk_is I k x _ h1 r1) (nk_all I ks q _ h2 r2)
end
end
/-- tuples that are keys, by their places -/
structure KeyAt (K : PySem.W.Frag) (H : Hp) (p : Addr × NestedKey) : Prop where
  is : NkV K H p.2 (.ref p.1)
  dep : p.2.depth ≤ 8
theorem refs_are {ks : List (Addr × NestedKey)} : ∀ {us : List Value}, Vals (ks.map fun p => V.ref p.1) us → us = ks.map fun p => Value.ref p.1 := by
  induction ks with
  | nil => intro us r; cases r; rfl
  | cons p ks ih =>
    intro us r
    cases r with
    | cons r1 r2 =>
      rw [ih r2]
      cases r1
      rfl
section
variable {X : Cx}
/-- len(set(xs)): texts, or tuples that are keys -/
def tLenSetN (K : PySem.W.Frag) (ta : TE) : TE := fun σ H Q => ta σ H fun x H1 => ∃ l, x = V.ref l ∧
  ((∃ ks : List (Addr × NestedKey), SqL K H1 l (ks.map fun p => V.ref p.1) ∧ (∀ p ∈ ks, KeyAt K H1 p) ∧ ks.length ≤ 300 ∧ ∀ n : Nat, n ≤ ks.length → (n = ks.length ↔ (ks.map (·.2)).Nodup) → Q (.int n) H1) ∨
   (∃ xs : List Str, SqL K H1 l (xs.map V.str) ∧ xs.length ≤ 4000 ∧ ∀ n : Nat, n ≤ xs.length → (n = xs.length ↔ xs.Nodup) → Q (.int n) H1))
theorem pe_lenSetN {a : Expr} {ta : TE} {p p2 q pos : Pos} {K : PySem.W.Frag} (hK : X.K = K) (hc : X.calm = true) (hu : X.A.units + 64 < cLine) (hg : Gl X "len") (hm : X.mg "len" = none) (hg2 : Gl X "set") (hm2 : X.mg "set" = none) (ha : PE X a ta)
    (na : starEach [a] X.env = (false, eval a X.env) :: starEach [] X.env := by rfl) : PE X (.Call (.Name "len" p) [.Call (.Name "set" p2) [a] [] q] [] pos) (tLenSetN K ta) := by
  subst hK
  refine ⟨fun pins s σ H Q I h => ?_⟩
  refine Call_ (ld_blt I hg hm PySem.boot_len ?_)
  refine PyProof.Rows.callWith_builtin1 (PyProof.Rows.args_cons ?_ rfl) rfl rfl
  refine Call_ (ld_blt I hg2 hm2 PyProof.Rows.boot_set ?_)
  refine PyProof.Rows.callWith_type1 (PyProof.Rows.args_cons (thn (ha.run pins s σ H _ I h) fun v s1 ⟨x, H1, I1, r1, q1⟩ => PyProof.Rows.args_nil ?_) na) na rfl
  obtain ⟨l, rfl, q1⟩ := q1
  cases r1
  have fresh : s1.heap.get? s1.heap.objs.size = none := by
    cases e : s1.heap.get? s1.heap.objs.size with
    | none => rfl
    | some o => exact absurd (Heap.lt_size e) (Nat.lt_irrefl _)
  rcases q1 with ⟨ks, hq, hk, hf, q1⟩ | ⟨xs, hq, hf, q1⟩
  · obtain ⟨its, rv, pl, hz⟩ := I1.list hq
    have hit := refs_are rv
    have hisz : its.toArray.size = ks.length := by rw [List.size_toArray, hit, List.length_map]
    refine call_set_by (w := X.w) (I1.ok.hd hc) pl.isList (adder_keys ks (by simpa using hit) (fun p hp => ⟨nk_is I1 p.2 _ _ (hk p hp).is rfl, (hk p hp).dep⟩) fresh hf) (fun h' hS _ => ⟨[], #[], 0, _, st_new hS, (fun p hp => by cases hp), (fun k => by simp), Nat.le_refl _⟩) (by omega) fun h' tk ⟨L, es, ep, t, R, hs, hmem, hl⟩ hkp => ?_
    refine PyProof.Rows.args_nil ?_
    obtain ⟨o, ho, hex, hd⟩ := R.ob
    have hn := rows_len R.rows
    rw [hisz, List.take_length] at hmem
    obtain ⟨c1, c2⟩ := count_is R.nd hmem
    rw [List.length_map, List.length_map] at c1 c2
    have I2 : Inv X pins σ H1 { s1 with heap := h', toks := tk } := I1.kept fun b o e => hkp b o e
    exact call_len_set ho hex hd R.fits (by rw [hn]; omega) ⟨.int L.length, H1, I2.tok _, ⟨_, by rw [hn]⟩, q1 L.length c1 c2⟩
  · obtain ⟨its, rv, pl, hz⟩ := I1.list hq
    have hlen : its.length = xs.length := by rw [← rv.length, List.length_map]
    refine call_set_by (w := X.w) (I1.ok.hd hc) pl.isList (adder_strs xs (by simpa using strs_of_vals rv) hf) (fun h' hS _ => ⟨fun _ => false, [], ⟨_, #[], 0, _, hS, ⟨rfl, rfl, rfl⟩, rfl, fun e he => by simp at he, fun k => by simp, by decide, by rfl, rfl⟩, List.nodup_nil, fun x => by simp, fun x => by simp, Nat.le_refl _⟩) (by omega) fun h' tk ⟨F, D, R, hn, hmem, hF, hl⟩ hkp => ?_
    refine PyProof.Rows.args_nil ?_
    obtain ⟨o, es, ep, t, ho, hex, hd, _, _, hb, hfit, hsz⟩ := R
    rw [List.size_toArray, hlen, List.take_length] at hmem
    obtain ⟨c1, c2⟩ := count_is hn hmem
    have I2 : Inv X pins σ H1 { s1 with heap := h', toks := tk } := I1.kept fun b o e => hkp b o e
    exact call_len_set ho hex hd hfit (by rw [hsz]; omega) ⟨.int D.length, H1, I2.tok _, ⟨_, by rw [hsz]⟩, q1 D.length c1 c2⟩
end
end Sn
set_option Elab.async false
set_option linter.all false
set_option maxRecDepth 100000
set_option maxHeartbeats 2000000
namespace Gx
open PySem PySem.Spec PyProof.Rows L2 StX
section
variable {X : Cx} {K : PySem.W.Frag} {es : List Expr} {e : Expr} {te : TE} {t : TA} {p : Pos}
theorem pa_starK (h : X.K = K) (he : PE X e te) (hr : PA X es t) (hs : starEach (.Starred e p :: es) X.env = (true, eval e X.env) :: starEach es X.env := by rfl) : PA X (.Starred e p :: es) (tStar K te t) := by
  subst h; exact pa_star he hr hs
/-- text * int -/
def rMulStr : R2 := fun x y H Q => ∃ (z : Str) (n : Int), x = .str z ∧ y = .int n ∧ PySem.MulOk z n ∧ Q (.str (Txt.mul z n)) H
theorem op_mul_str : OpR X (binaryOp .Mult) rMulStr := by
  intro pins s σ H x y v u Q I rx ry h
  obtain ⟨z, n, rfl, rfl, hok, q⟩ := h
  obtain ⟨t, rfl⟩ := rx
  obtain ⟨t', rfl⟩ := ry
  exact PySem.SB.mul hok fun t2 k => ⟨.str (Txt.mul z n), H, I.tok _, ⟨_, rfl⟩, q⟩
end
end Gx
set_option Elab.async false
set_option linter.all false
set_option maxRecDepth 100000
set_option maxHeartbeats 4000000
/-! words: names, short texts; comparisons with the empty list; lists of data -/
namespace Lw
open PySem PySem.Spec PyProof.Rows L2 Gx
abbrev cl (w : Str) : List Nat := w.cps.toList
def letters : List Nat := cl "abcdefghijklmnopqrstuvwxyz"
def lenB (n w : Nat) : Bool := decide ((1 : Int) ≤ (w : Int)) && decide ((w : Int) ≤ (n : Int))
def nameB (w : Str) : Bool := lenB 12 w.length && (cl w).all fun c => decide (c ∈ letters)
theorem len_cl (w : Str) : (cl w).length = w.length := Array.length_toList
structure Wd (w : Str) : Prop where
  len : w.length ≤ 100000
  asc : ∀ c ∈ cl w, c < 128
theorem val {Q : VK} {b c : Bool} {H : Hp} (e : b = c) (q : Q (.bl b) H) : Q (.bl c) H := e ▸ q
theorem Wd.big {w : Str} (h : Wd w) : w.length ≤ sizeLine := Nat.le_trans h.len (by decide)
theorem strsD {K : PySem.W.Frag} {H : Hp} : ∀ l : List Nat, DpAll K H (l.map fun c => V.str ⟨#[c]⟩) (l.map fun c => PyData.str ⟨#[c]⟩)
  | [] => .nil
  | c :: l => .cons (.str _) (strsD l)
theorem shp_signs {l : List Nat} (h : ∀ c ∈ l, c < 128) : SeqAt.shaped (.list (l.map fun c => PyData.str ⟨#[c]⟩)) = true := by
  refine shp_list fun d hd => ?_
  obtain ⟨c, hc, rfl⟩ := List.mem_map.mp hd
  have h1 := h c hc
  refine ⟨?_, Nat.zero_le _⟩
  show (#[c].all fun z => decide (z < 0x110000)) = true
  simp; omega
theorem eqv_nil {l : List PyData} : PyData.eqv (.list l) (.list []) = l.isEmpty := by cases l <;> rfl
theorem fil_all {α β : Type} (l : List α) (p : α → Bool) (f : α → β) : (((l.filter fun c => !p c).map f)).isEmpty = l.all p := by
  induction l with
  | nil => rfl
  | cons c l ih =>
    rw [List.filter_cons, List.all_cons, ← ih]
    cases p c <;> rfl
theorem cps_inj {d c : Nat} : (V.str ⟨#[d]⟩ = V.str ⟨#[c]⟩) ↔ d = c := ⟨fun z => by injection z with z; have z1 := congrArg (fun t : Str => t.cps.toList) z; simpa using z1, fun z => by rw [z]⟩
theorem drop_at {l : List Nat} {i d : Nat} (h : l[i]? = some d) : l.drop i = d :: l.drop (i + 1) := by
  obtain ⟨h1, h2⟩ := List.getElem?_eq_some_iff.mp h
  rw [List.drop_eq_getElem_cons h1, h2]
theorem new_ne {H : Hp} {u t : Addr} {o : HO} (h : upd H u o t = none) : t ≠ u := fun z => by rw [z, upd_same] at h; cases h
theorem sz2 : 2 ≤ sizeLine := by decide
theorem in_letters (c : Nat) : decide (c ∈ letters) = (decide (97 ≤ c) && decide (c ≤ 122)) := by
  have e : letters = (List.range 26).map (· + 97) := by decide
  rw [e, Bool.eq_iff_iff]
  simp only [decide_eq_true_iff, Bool.and_eq_true, List.mem_map, List.mem_range]
  constructor
  · rintro ⟨a, h, rfl⟩; omega
  · intro h; exact ⟨c - 97, by omega, by omega⟩
/-- a sign is one of a to z, by the texts' order -/
theorem le_sign (a c : Nat) : (!decide ([c] < [a])) = decide (a ≤ c) := by
  rw [Bool.eq_iff_iff]
  simp only [Bool.not_eq_true', decide_eq_false_iff_not, decide_eq_true_iff]
  constructor
  · intro h
    refine Nat.le_of_not_lt fun z => h ?_
    exact List.Lex.rel z
  · intro h z
    cases z with
    | rel z => omega
    | cons z => cases z
/-! short words -/
structure Sm (n : Nat) (w : Str) : Prop where
  len : w.length ≤ n
  asc : ∀ c ∈ cl w, c < 128
theorem Sm.mono {m n : Nat} {w : Str} (h : Sm m w) (e : m ≤ n) : Sm n w := ⟨Nat.le_trans h.len e, h.asc⟩
theorem Sm.wd {n : Nat} {w : Str} (h : Sm n w) (e : n ≤ 100000) : Wd w := ⟨Nat.le_trans h.len e, h.asc⟩
theorem Sm.app {m n : Nat} {w u : Str} (h : Sm m w) (k : Sm n u) : Sm (m + n) (w ++ u) := by
  refine ⟨?_, fun c hc => ?_⟩
  · rw [TL.len_tl, TL.tl_append, List.length_append, ← TL.len_tl, ← TL.len_tl]
    have := h.len; have := k.len; omega
  · rw [show cl (w ++ u) = cl w ++ cl u from TL.tl_append w u] at hc
    rcases List.mem_append.mp hc with hc | hc
    · exact h.asc c hc
    · exact k.asc c hc
def smB (n : Nat) (w : Str) : Bool := decide (w.length ≤ n) && (cl w).all fun c => decide (c < 128)
theorem sm_by {n : Nat} {w : Str} (h : smB n w = true) : Sm n w := by
  unfold smB at h
  simp only [Bool.and_eq_true, decide_eq_true_iff, List.all_eq_true] at h
  exact ⟨h.1, h.2⟩
def SmV (n : Nat) (v : V) : Prop := ∃ w, v = .str w ∧ Sm n w
theorem sm_sign {c : Nat} (h : c < 128) : Sm 1 ⟨#[c]⟩ := ⟨Nat.le_refl _, fun e he => by
  have : e = c := by simpa using he
  omega⟩
end Lw
set_option Elab.async false
set_option linter.all false
set_option maxRecDepth 100000
set_option maxHeartbeats 4000000
/-! data of texts, ints and tuples, as keys; lists of them -/
namespace Lw
open PySem PySem.Spec PyProof.Rows L2 Gx Sn
/-- the tuples stay -/
structure Tk (H H' : Hp) : Prop where
  t : ∀ a xs, H a = some (.tup xs) → H' a = some (.tup xs)
  f : ∀ a o xs, H a = some (.frz o (.tup xs)) → H' a = some (.frz o (.tup xs))
theorem Tk.refl (H : Hp) : Tk H H := ⟨fun _ _ h => h, fun _ _ _ h => h⟩
theorem Tk.trans {H H1 H2 : Hp} (a : Tk H H1) (b : Tk H1 H2) : Tk H H2 := ⟨fun c xs h => b.t c xs (a.t c xs h), fun c o xs h => b.f c o xs (a.f c o xs h)⟩
theorem Tk.of_xt {H H' : Hp} (x : Xt H H') : Tk H H' := ⟨fun a xs h => x.keep a _ h fun _ => nofun, fun a o xs h => x.keep a _ h fun _ => nofun⟩
theorem Tk.of_xd {H H' : Hp} {d : Addr} (hd : Dr H d) (x : Xd d H H') : Tk H H' := by
  obtain ⟨ns, e⟩ := hd
  refine ⟨fun a xs h => x.keep a _ (fun z => ?_) h fun _ => nofun, fun a o xs h => x.keep a _ (fun z => ?_) h fun _ => nofun⟩ <;> (rw [z, e] at h; cases h)
theorem Tk.new {H : Hp} {p : Addr} {o : HO} (h : H p = none) : Tk H (upd H p o) := .of_xt (Xt.new h)
/-- a list stored anew -/
theorem Tk.lst {H : Hp} {q : Addr} {l : List V} {o : HO} (h : H q = some (.lst l)) : Tk H (upd H q o) := by
  refine ⟨fun a xs e => ?_, fun a u xs e => ?_⟩ <;> (rw [upd_ne (fun z => by rw [z, h] at e; cases e)]; exact e)
theorem Tk.sqT {K : PySem.W.Frag} {H H' : Hp} (x : Tk H H') {a : Addr} {xs : List V} (h : SqT K H a xs) : SqT K H' a xs := by
  rcases h with (h | ⟨o, h⟩) | h
  · exact .inl (.inl (x.t a xs h))
  · exact .inl (.inr ⟨o, x.f a o xs h⟩)
  · exact .inr h
mutual
theorem nkV_tk {K : PySem.W.Frag} {H H' : Hp} (x : Tk H H') : ∀ (k : NestedKey) (v : V), NkV K H k v → NkV K H' k v
  | .none, _, h => by unfold NkV at h ⊢; exact h
  | .num _, _, h => by unfold NkV at h ⊢; exact h
  | .text _, _, h => by unfold NkV at h ⊢; exact h
  | .tup ks, _, h => by
    unfold NkV at h ⊢
    obtain ⟨a, xs, e, hs, ha⟩ := h
    exact ⟨a, xs, e, x.sqT hs, nkA_tk x ks xs ha⟩
theorem nkA_tk {K : PySem.W.Frag} {H H' : Hp} (x : Tk H H') : ∀ (ks : List NestedKey) (xs : List V), NkA K H ks xs → NkA K H' ks xs
  | [], _, h => by unfold NkA at h ⊢; exact h
  | k :: ks, _, h => by
    unfold NkA at h ⊢
    obtain ⟨y, r, e, h1, h2⟩ := h
    exact ⟨y, r, e, nkV_tk x k y h1, nkA_tk x ks r h2⟩
end
section
variable {K : PySem.W.Frag} {H : Hp}
theorem nkA_len : ∀ {ks : List NestedKey} {xs : List V}, NkA K H ks xs → xs.length = ks.length
  | [], _, h => by unfold NkA at h; rw [h]; rfl
  | k :: ks, _, h => by
    unfold NkA at h
    obtain ⟨y, r, rfl, _, h2⟩ := h
    rw [List.length_cons, List.length_cons, nkA_len h2]
theorem nkA_nil : NkA K H [] [] := by unfold NkA; rfl
theorem nkA_cons {k : NestedKey} {ks : List NestedKey} {v : V} {vs : List V} (h : NkV K H k v) (hs : NkA K H ks vs) : NkA K H (k :: ks) (v :: vs) := by unfold NkA; exact ⟨v, vs, rfl, h, hs⟩
theorem nkA_app : ∀ {ks ls : List NestedKey} {xs ys : List V}, NkA K H ks xs → NkA K H ls ys → NkA K H (ks ++ ls) (xs ++ ys)
  | [], _, _, _, h, h' => by unfold NkA at h; rw [h]; exact h'
  | k :: ks, _, _, _, h, h' => by
    unfold NkA at h
    obtain ⟨y, r, rfl, h1, h2⟩ := h
    exact nkA_cons h1 (nkA_app h2 h')
theorem nkA_at : ∀ {ks : List NestedKey} {xs : List V}, NkA K H ks xs → ∀ {i : Nat} {v : V}, xs[i]? = some v → ∃ k, ks[i]? = some k ∧ NkV K H k v
  | [], _, h, i, v, e => by unfold NkA at h; rw [h] at e; cases e
  | k :: ks, _, h, i, v, e => by
    unfold NkA at h
    obtain ⟨y, r, rfl, h1, h2⟩ := h
    cases i with
    | zero => cases e; exact ⟨k, rfl, h1⟩
    | succ i => exact nkA_at h2 e
theorem nkA_take : ∀ {ks : List NestedKey} {xs : List V} (n : Nat), NkA K H ks xs → NkA K H (ks.take n) (xs.take n)
  | [], _, n, h => by unfold NkA at h; rw [h]; simp; exact nkA_nil
  | k :: ks, _, 0, h => by simp; exact nkA_nil
  | k :: ks, _, n + 1, h => by
    unfold NkA at h
    obtain ⟨y, r, rfl, h1, h2⟩ := h
    exact nkA_cons h1 (nkA_take n h2)
theorem nkA_texts : ∀ l : List Str, NkA K H (l.map .text) (l.map V.str)
  | [] => nkA_nil
  | x :: l => nkA_cons (by unfold NkV; rfl) (nkA_texts l)
theorem nkA_texts_inv : ∀ {l : List Str} {xs : List V}, NkA K H (l.map .text) xs → xs = l.map V.str
  | [], _, h => by unfold NkA at h; exact h
  | x :: l, _, h => by
    unfold NkA at h
    obtain ⟨y, r, rfl, h1, h2⟩ := h
    unfold NkV at h1
    rw [h1, nkA_texts_inv h2]
    rfl
theorem nk_tup {ks : List NestedKey} {a : Addr} {xs : List V} (h : H a = some (.tup xs)) (ha : NkA K H ks xs) : NkV K H (.tup ks) (.ref a) := by
  unfold NkV
  exact ⟨a, xs, rfl, .inl (.inl h), ha⟩
theorem nk_tup_inv {ks : List NestedKey} {v : V} (h : NkV K H (.tup ks) v) : ∃ a xs, v = .ref a ∧ SqT K H a xs ∧ NkA K H ks xs := by unfold NkV at h; exact h
theorem nk_text {x : Str} : NkV K H (.text x) (.str x) := by unfold NkV; rfl
theorem nk_num {i : Int} : NkV K H (.num i) (.int i) := by unfold NkV; rfl
/-- a pair of a text and an int -/
def rk (r : Str × Int) : NestedKey := .tup [.text r.1, .num r.2]
/-- a fact: a name and its tuple of texts -/
def fk (f : Str × List Str) : NestedKey := .tup [.text f.1, .tup (f.2.map .text)]
theorem rk_inv {r : Str × Int} {v : V} (h : NkV K H (rk r) v) : ∃ a, v = .ref a ∧ SqT K H a [.str r.1, .int r.2] := by
  obtain ⟨a, xs, rfl, hs, ha⟩ := nk_tup_inv h
  unfold NkA at ha
  obtain ⟨x, q, rfl, h1, h2⟩ := ha
  unfold NkA at h2
  obtain ⟨y, z, rfl, h3, h4⟩ := h2
  unfold NkA at h4
  unfold NkV at h1 h3
  subst h1 h3 h4
  exact ⟨a, rfl, hs⟩
theorem fk_inv {f : Str × List Str} {v : V} (h : NkV K H (fk f) v) : ∃ a b, v = .ref a ∧ SqT K H a [.str f.1, .ref b] ∧ SqT K H b (f.2.map V.str) := by
  obtain ⟨a, xs, rfl, hs, ha⟩ := nk_tup_inv h
  unfold NkA at ha
  obtain ⟨x, q, rfl, h1, h2⟩ := ha
  unfold NkA at h2
  obtain ⟨y, z, rfl, h3, h4⟩ := h2
  unfold NkA at h4
  unfold NkV at h1
  subst h1 h4
  obtain ⟨b, ys, rfl, hb, hy⟩ := nk_tup_inv h3
  rw [nkA_texts_inv hy] at hb
  exact ⟨a, b, rfl, hs, hb⟩
theorem rk_inj {r q : Str × Int} (h : rk r = rk q) : r = q := by
  unfold rk at h
  injection h with h
  simp at h
  exact Prod.ext h.1 h.2
theorem text_inj : ∀ {l m : List Str}, l.map NestedKey.text = m.map NestedKey.text → l = m
  | [], [], _ => rfl
  | [], _ :: _, h => by simp at h
  | _ :: _, [], h => by simp at h
  | x :: l, y :: m, h => by
    simp at h
    rw [h.1, text_inj (l := l) (m := m) (by simpa using h.2)]
theorem fk_inj {f g : Str × List Str} (h : fk f = fk g) : f = g := by
  unfold fk at h
  injection h with h
  simp only [List.cons.injEq, NestedKey.text.injEq, NestedKey.tup.injEq, and_true] at h
  exact Prod.ext h.1 (text_inj h.2)
theorem rk_depth (r : Str × Int) : (rk r).depth ≤ 8 := by simp [rk, NestedKey.depth, NestedKey.depthAll]
theorem dep_texts : ∀ l : List Str, NestedKey.depthAll (l.map .text) = 0
  | [] => by simp [NestedKey.depthAll]
  | x :: l => by simp [NestedKey.depthAll, NestedKey.depth, dep_texts l]
theorem fk_depth (f : Str × List Str) : (fk f).depth ≤ 8 := by simp [fk, NestedKey.depth, NestedKey.depthAll, dep_texts]
end
/-- a list of such data -/
def KsAt (K : PySem.W.Frag) (H : Hp) (q : Addr) (ks : List NestedKey) : Prop := ∃ vs, H q = some (.lst vs) ∧ NkA K H ks vs
/-- as the set's rule asks for them -/
theorem refs_of_keys {K : PySem.W.Frag} {H : Hp} {α : Type} (f : α → NestedKey) (hf : ∀ x, ∃ ks, f x = .tup ks) (hd : ∀ x, (f x).depth ≤ 8) : ∀ (l : List α) (vs : List V), NkA K H (l.map f) vs →
    ∃ ps : List (Addr × NestedKey), vs = ps.map (fun p => V.ref p.1) ∧ (∀ p ∈ ps, KeyAt K H p) ∧ ps.map (·.2) = l.map f ∧ ps.length = l.length
  | [], vs, h => by
    unfold NkA at h
    exact ⟨[], h, (fun p hp => by cases hp), rfl, rfl⟩
  | x :: l, vs, h => by
    rw [List.map_cons] at h
    unfold NkA at h
    obtain ⟨y, r, rfl, h1, h2⟩ := h
    obtain ⟨ps, rfl, h3, h4, h5⟩ := refs_of_keys f hf hd l r h2
    obtain ⟨ks, e⟩ := hf x
    rw [e] at h1
    obtain ⟨a, xs, rfl, hs, ha⟩ := nk_tup_inv h1
    refine ⟨(a, f x) :: ps, rfl, fun p hp => ?_, by simp [h4], by simp [h5]⟩
    rcases List.mem_cons.mp hp with rfl | hp
    · exact ⟨by rw [e]; exact h1, hd x⟩
    · exact h3 p hp
end Lw
namespace Lw
open PySem PySem.Spec PyProof.Rows L2 Gx Sn
section
variable {K : PySem.W.Frag} {g : TG} {tt : TT} {te : TE} {σ' : L2.St} {Q : VK} {H : Hp}
/-- all over a list, by a list that goes beside it -/
theorem gx_all_by {α : Type} {a : Addr} {xs : List V} (ks : List α) (p : α → Bool) (hlen : xs.length = ks.length) (hl : SqL K H a xs)
    (hs : ∀ (i : Nat) v k, xs[i]? = some v → ks[i]? = some k → ∀ H' N, Xt H H' → (∀ H2, Xt H H2 → if p k = false then Q (.bl false) H2 else N H2) → gxTurn g tt te σ' false Q v H' N) (h : ∀ H', Xt H H' → Q (.bl (ks.all p)) H') :
    ∃ (W : Nat → Nat → Hp → Prop) (m : Nat), W 0 m H ∧ gxW (Itl K a) g tt te σ' false Q W := by
  refine gx_list (xs := xs) (fun i H' => Xt H H' ∧ (ks.take i).all p = true) ⟨Xt.refl H, rfl⟩ (fun i H' hp => hp.1.sqL hl) (fun i c H' hc hp => ?_) (fun H' hp => ?_)
  · obtain ⟨xt, hp⟩ := hp
    have hi : i < ks.length := by rw [← hlen]; exact (List.getElem?_eq_some_iff.mp hc).1
    have hk := List.getElem?_eq_getElem hi
    refine hs i c _ hc hk H' _ xt fun H2 x2 => ite2 (fun e => ?_) (fun e => ⟨x2, ?_⟩)
    · have q := h H2 x2
      rw [all_false_at hk e] at q
      exact q
    · rw [take_all_succ hk, hp, eq_true_of_ne_false e]
      rfl
  · obtain ⟨xt, hp⟩ := hp
    rw [hlen, List.take_length] at hp
    have q := h H' xt
    rw [hp] at q
    exact q
end
end Lw
namespace Lw
open PySem PySem.Spec PyProof.Rows L2 Gx Sn
section
variable {K : PySem.W.Frag} {g : TG} {tt : TT} {te : TE}
/-- a comprehension over a list, by a list that goes beside it -/
theorem lcf_by {α : Type} {vs : List Nat} {σ : L2.St} {H1 : Hp} {D : Addr} {Qd : Hp → Prop} {a : Addr} {xs : List V} (ks : List α) (p : α → Bool) (f : α → V) (hlen : xs.length = ks.length) (hl : SqL K H1 a xs) (hD : H1 D = none) (hz : ks.length ≤ sizeLine)
    (hs : ∀ (i : Nat) v k, xs[i]? = some v → ks[i]? = some k → ∀ H' (Y : V → Hp → Prop) (N : Hp → Prop), Xt H1 H' → (∀ H2, Xt H' H2 → p k = true → Y (f k) H2) → (∀ H2, Xt H' H2 → p k = false → N H2) →
      g v (wipe σ vs) H' fun σ2 H2 => wipe σ2 vs = wipe σ vs ∧ tt σ2 H2 fun b H3 => if b = true then te σ2 H3 Y else N H3)
    (hd : ∀ H', Xt H1 H' → H' D = some (.lst ((ks.filter p).map f)) → Qd H') :
    ∃ W : Nat → Nat → Hp → Prop, (∃ m, W 0 m (upd H1 D (.lst []))) ∧ ∀ i m H, W i m H →
      ((Itl K a).stop i H ∧ Qd H) ∨ ((Itl K a).go i H ∧ ∃ Nx : Hp → Prop, (∀ H', Nx H' → ∃ m', m' < m ∧ W (i + 1) m' H') ∧ ∀ v H', (Itl K a).yld i H v H' → g v (wipe σ vs) H' fun σ2 H2 => wipe σ2 vs = wipe σ vs ∧ tt σ2 H2 fun b H3 =>
        if b = true then te σ2 H3 fun y H4 => ∃ acc, H4 D = some (.lst acc) ∧ acc.length < sizeLine ∧ Nx (upd H4 D (.lst (acc ++ [y]))) else Nx H3) := by
  refine lc_list (xs := xs) (fun i H' => Xt H1 H' ∧ H' D = some (.lst (((ks.take i).filter p).map f))) ⟨Xt.new hD, upd_same ..⟩ (fun i H' _ hp => hp.1.sqL hl) (fun i c H' hc hp => ?_) (fun H' hp => hd H' hp.1 ?_)
  · obtain ⟨xt, hp⟩ := hp
    have hi : i < ks.length := by rw [← hlen]; exact (List.getElem?_eq_some_iff.mp hc).1
    have hk := List.getElem?_eq_getElem hi
    refine hs i c _ hc hk H' _ _ xt (fun H2 x2 e => ⟨_, x2.lst hp, ?_, (xt.trans x2).mut hD, ?_⟩) (fun H2 x2 e => ⟨xt.trans x2, ?_⟩)
    · rw [List.length_map]
      exact Nat.lt_of_le_of_lt (Nat.le_trans (List.length_filter_le ..) (by rw [List.length_take]; exact Nat.min_le_left ..)) (Nat.lt_of_lt_of_le hi hz)
    · rw [upd_same, List.take_add_one, hk, List.filter_append, List.map_append]
      show _ = some (HO.lst (_ ++ ([ks[i]].filter p).map f))
      rw [List.filter_cons, if_pos e]
      rfl
    · rw [x2.lst hp, List.take_add_one, hk, List.filter_append, List.map_append]
      show _ = some (HO.lst (_ ++ ([ks[i]].filter p).map f))
      rw [List.filter_cons, if_neg (by rw [e]; exact Bool.false_ne_true)]
      show _ = some (HO.lst (_ ++ []))
      rw [List.append_nil]
  · have h2 := hp.2
    rw [hlen, List.take_length] at h2
    exact h2
end
end Lw
namespace Lw
open PySem PySem.Spec PyProof.Rows L2 Gx Sn
/-- lo <= m <= hi -/
theorem rd_chain {tb : TE} {σ : L2.St} {H : Hp} {lo hi m : Int} {Qb : Bool → Hp → Prop} (hb : ∀ Q : VK, Q (.int m) H → tb σ H Q) (q : Qb (decide (lo ≤ m) && decide (m ≤ hi)) H) :
    tTest (tChain (rI0 fun i j => .bl (decide (i ≤ j))) (rI0 fun i j => .bl (decide (i ≤ j))) (tC (.int lo)) tb (tC (.int hi))) σ H Qb := by
  refine hb _ ⟨lo, m, rfl, rfl, _, rfl, ite2 (fun h1 => ⟨m, hi, rfl, rfl, _, rfl, ?_⟩) (fun h1 => ⟨_, rfl, ?_⟩)⟩
  · rw [h1, Bool.true_and] at q
    exact q
  · rw [eq_false_of_ne_true h1, Bool.false_and] at q
    exact q
/-- as a value -/
theorem rd_chainV {tb : TE} {σ : L2.St} {H : Hp} {lo hi m : Int} {Q : VK} (hb : ∀ Q : VK, Q (.int m) H → tb σ H Q) (q : Q (.bl (decide (lo ≤ m) && decide (m ≤ hi))) H) :
    tChain (rI0 fun i j => .bl (decide (i ≤ j))) (rI0 fun i j => .bl (decide (i ≤ j))) (tC (.int lo)) tb (tC (.int hi)) σ H Q := by
  refine hb _ ⟨lo, m, rfl, rfl, _, rfl, ite2 (fun h1 => ⟨m, hi, rfl, rfl, ?_⟩) (fun h1 => ?_)⟩
  · rw [h1, Bool.true_and] at q
    exact q
  · rw [eq_false_of_ne_true h1, Bool.false_and] at q
    exact q
theorem rd_lenL {K : PySem.W.Frag} {σ : L2.St} {H : Hp} {i : Nat} {q : Addr} {xs : List V} (hi : σ[i]? = some (some (.ref q))) (h : SqL K H q xs) (Q : VK) (k : Q (.int xs.length) H) : tCB (rLenK K) (tCons (tVar i) tNil) σ H Q := ⟨_, hi, q, xs, rfl, .inl h, k⟩
end Lw
set_option Elab.async false
set_option linter.all false
set_option maxRecDepth 100000
set_option maxHeartbeats 4000000
/-! comprehensions over a range; twice in a list of texts -/
namespace Lw
open PySem PySem.Spec PyProof.Rows L2 Gx Sn
section
variable {K : PySem.W.Frag} {g : TG} {tt : TT} {te : TE}
theorem lcf_rng {vs : List Nat} {σ : L2.St} {H1 : Hp} {D : Addr} {Qd : Hp → Prop} {m : Nat} (p : Nat → Bool) (f : Nat → V) (hD : H1 D = none) (hz : m ≤ sizeLine)
    (hs : ∀ i, i < m → ∀ H' (Y : V → Hp → Prop) (N : Hp → Prop), Xt H1 H' → (∀ H2, Xt H' H2 → p i = true → Y (f i) H2) → (∀ H2, Xt H' H2 → p i = false → N H2) →
      g (.int i) (wipe σ vs) H' fun σ2 H2 => wipe σ2 vs = wipe σ vs ∧ tt σ2 H2 fun b H3 => if b = true then te σ2 H3 Y else N H3)
    (hd : ∀ H', Xt H1 H' → H' D = some (.lst (((List.range m).filter p).map f)) → Qd H') :
    ∃ W : Nat → Nat → Hp → Prop, (∃ m', W 0 m' (upd H1 D (.lst []))) ∧ ∀ i m' H, W i m' H →
      ((Itr 0 m).stop i H ∧ Qd H) ∨ ((Itr 0 m).go i H ∧ ∃ Nx : Hp → Prop, (∀ H', Nx H' → ∃ m'', m'' < m' ∧ W (i + 1) m'' H') ∧ ∀ v H', (Itr 0 m).yld i H v H' → g v (wipe σ vs) H' fun σ2 H2 => wipe σ2 vs = wipe σ vs ∧ tt σ2 H2 fun b H3 =>
        if b = true then te σ2 H3 fun y H4 => ∃ acc, H4 D = some (.lst acc) ∧ acc.length < sizeLine ∧ Nx (upd H4 D (.lst (acc ++ [y]))) else Nx H3) := by
  refine lc_range (fun i H' => Xt H1 H' ∧ H' D = some (.lst (((List.range i).filter p).map f))) ⟨Xt.new hD, upd_same ..⟩ (fun i H' hi hp => ?_) (fun H' hp => hd H' hp.1 hp.2)
  obtain ⟨xt, hp⟩ := hp
  have e0 : (0 + (i : Int)) = (i : Int) := by omega
  rw [e0]
  refine hs i hi H' _ _ xt (fun H2 x2 e => ⟨_, x2.lst hp, ?_, (xt.trans x2).mut hD, ?_⟩) (fun H2 x2 e => ⟨xt.trans x2, ?_⟩)
  · rw [List.length_map]
    exact Nat.lt_of_le_of_lt (Nat.le_trans (List.length_filter_le ..) (Nat.le_of_eq List.length_range)) (Nat.lt_of_lt_of_le hi hz)
  · rw [upd_same, List.range_succ, List.filter_append, List.map_append, List.filter_cons, if_pos e]
    rfl
  · rw [x2.lst hp, List.range_succ, List.filter_append, List.map_append, List.filter_cons, if_neg (by rw [e]; exact Bool.false_ne_true)]
    show _ = some (HO.lst (_ ++ []))
    rw [List.append_nil]
end
/-- the places at which something stands again -/
theorem twice_by {α : Type} (l : List α) (p : Nat → Bool) [Decidable l.Nodup] (hp : ∀ i x, l[i]? = some x → (p i = true ↔ x ∈ l.take i)) : ((List.range l.length).filter p).isEmpty = decide l.Nodup := by
  rw [Bool.eq_iff_iff, List.isEmpty_iff, decide_eq_true_iff, List.filter_eq_nil_iff]
  unfold List.Nodup
  rw [List.pairwise_iff_getElem]
  constructor
  · intro h i j hi hj hij e
    refine h j (List.mem_range.mpr hj) ?_
    rw [hp j _ (List.getElem?_eq_getElem hj), ← e]
    rw [List.mem_take_iff_getElem]
    exact ⟨i, by omega, rfl⟩
  · intro h i hi e
    have hi' := List.mem_range.mp hi
    rw [hp i _ (List.getElem?_eq_getElem hi'), List.mem_take_iff_getElem] at e
    obtain ⟨j, hj, ej⟩ := e
    exact h j i (by omega) hi' (by omega) ej
theorem twice_nodup {α : Type} [DecidableEq α] (l : List α) (p : Nat → Bool) (hp : ∀ i x, l[i]? = some x → p i = decide (x ∈ l.take i)) : ((List.range l.length).filter p).isEmpty = decide l.Nodup :=
  twice_by l p fun i x hx => by rw [hp i x hx, decide_eq_true_iff]
theorem map_isEmpty {α β : Type} (l : List α) (f : α → β) : (l.map f).isEmpty = l.isEmpty := by cases l <;> rfl
theorem fil_ne {α : Type} (l : List α) (p : α → Bool) : (l.filter fun c => !p c).isEmpty = l.all p := by
  have := fil_all l p id
  rw [List.map_id] at this
  exact this
/-- a list of plain values, as data -/
theorem dp_ints {K : PySem.W.Frag} {H : Hp} : ∀ l : List Int, DpAll K H (l.map V.int) (l.map PyData.int)
  | [] => .nil
  | n :: l => .cons (.int n) (dp_ints l)
theorem shp_ints (l : List Int) : SeqAt.shaped (.list (l.map PyData.int)) = true := by
  refine shp_list fun d hd => ?_
  obtain ⟨n, _, rfl⟩ := List.mem_map.mp hd
  exact ⟨rfl, Nat.zero_le _⟩
theorem shp_words {l : List Str} (h : ∀ x ∈ l, Wd x) : SeqAt.shaped (.list (l.map PyData.str)) = true := by
  refine shp_list fun d hd => ?_
  obtain ⟨x, hx, rfl⟩ := List.mem_map.mp hd
  refine ⟨?_, Nat.zero_le _⟩
  show (x.cps.all fun z => decide (z < 0x110000)) = true
  rw [Array.all_eq_true_iff_forall_mem]
  intro c hc
  have := (h x hx).asc c (by simpa using hc)
  simp; omega
theorem nn_str {K : PySem.W.Frag} {σ : L2.St} {H : Hp} {D : Addr} {ws : List Str} {Q : VK} (hl : H D = some (.lst (ws.map V.str))) (hw : ∀ x ∈ ws, Wd x) (q : ∀ H1, Xt H H1 → Q (.bl (!ws.isEmpty)) H1) :
    tLst tNil σ H (fun y H2 => rNeD K (.ref D) y H2 Q) := by
  refine ⟨Nat.zero_le _, fun l hl2 => ⟨_, _, .lst (.inl (.inl ((Xt.new hl2).lst hl))) (dp_strs _), .lst (.inl (.inl (upd_same ..))) .nil, shp_words hw, shp_nil, ?_⟩⟩
  rw [eqv_nil, map_isEmpty]
  exact q _ (Xt.new hl2)
theorem nn_int {K : PySem.W.Frag} {σ : L2.St} {H : Hp} {D : Addr} {ws : List Int} {Q : VK} (hl : H D = some (.lst (ws.map V.int))) (q : ∀ H1, Xt H H1 → Q (.bl (!ws.isEmpty)) H1) :
    tLst tNil σ H (fun y H2 => rNeD K (.ref D) y H2 Q) := by
  refine ⟨Nat.zero_le _, fun l hl2 => ⟨_, _, .lst (.inl (.inl ((Xt.new hl2).lst hl))) (dp_ints _), .lst (.inl (.inl (upd_same ..))) .nil, shp_ints _, shp_nil, ?_⟩⟩
  rw [eqv_nil, map_isEmpty]
  exact q _ (Xt.new hl2)
theorem cut_take (xs : List V) (i : Nat) : cutV xs none (some (i : Int)) = xs.take i := by
  unfold cutV
  rw [HT.sIx_none, HT.sIx_nat, List.drop_zero, Nat.sub_zero, List.take_eq_take_iff]
  omega
end Lw
namespace L2
open PySem PySem.Spec PyProof.Rows
theorem Room.u65 {k : Nat} {A : Around} (r : Room k A) : A.units + 65 < cLine := by have := r.un; omega
end L2
namespace Gx
open PySem PySem.Spec PyProof.Rows L2
theorem op_inDK {X : Cx} {K : PySem.W.Frag} (h : X.K = K) (hu : X.A.units + 65 < cLine) : OpR X (compareOp .In) (rInD K) := by subst h; exact op_inD hu
theorem op_notInDK {X : Cx} {K : PySem.W.Frag} (h : X.K = K) (hu : X.A.units + 65 < cLine) : OpR X (compareOp .NotIn) (rNotInD K) := by subst h; exact op_notInD hu
end Gx
set_option Elab.async false
set_option linter.all false
set_option maxRecDepth 100000
set_option maxHeartbeats 4000000
/-! facts and relations as data that is compared -/
namespace Lw
open PySem PySem.Spec PyProof.Rows L2 Gx Sn
def dF (f : Str × List Str) : PyData := .tuple [.str f.1, .tuple (f.2.map .str)]
def dR (r : Str × Int) : PyData := .tuple [.str r.1, .int r.2]
theorem beq_dec (x y : Str) : (x == y) = decide (x = y) := by
  by_cases h : x = y
  · rw [decide_eq_true h, h]; simp
  · rw [decide_eq_false h]; simpa using h
theorem eqv_strs : ∀ a b : List Str, PyData.eqvAll (a.map .str) (b.map .str) = decide (a = b)
  | [], [] => rfl
  | [], _ :: _ => rfl
  | _ :: _, [] => rfl
  | x :: a, y :: b => by
    show ((x == y) && PyData.eqvAll (a.map .str) (b.map .str)) = _
    rw [eqv_strs a b, beq_dec, Bool.eq_iff_iff]
    simp
theorem eqv_dF (f g : Str × List Str) : PyData.eqv (dF f) (dF g) = decide (f = g) := by
  obtain ⟨a, b⟩ := f
  obtain ⟨c, d⟩ := g
  show ((a == c) && (PyData.eqvAll (b.map .str) (d.map .str) && true)) = _
  rw [eqv_strs, beq_dec, Bool.eq_iff_iff]
  simp
theorem eqv_dR (f g : Str × Int) : PyData.eqv (dR f) (dR g) = decide (f = g) := by
  obtain ⟨a, b⟩ := f
  obtain ⟨c, d⟩ := g
  show ((a == c) && ((b == d) && true)) = _
  rw [beq_dec, Bool.eq_iff_iff]
  simp
theorem eqvAll_self : ∀ l : List PyData, (∀ d ∈ l, PyData.eqv d d = true) → PyData.eqvAll l l = true
  | [], _ => rfl
  | d :: l, h => by
    show (PyData.eqv d d && PyData.eqvAll l l) = true
    rw [h d (List.mem_cons_self ..), eqvAll_self l fun e he => h e (List.mem_cons_of_mem _ he)]
    rfl
theorem any_dF (f : Str × List Str) (l : List (Str × List Str)) : ((l.map dF).any fun z => PyData.eqv z (dF f)) = decide (f ∈ l) := by
  rw [List.any_map, Bool.eq_iff_iff, List.any_eq_true, decide_eq_true_iff]
  constructor
  · rintro ⟨g, hg, e⟩
    have e2 : PyData.eqv (dF g) (dF f) = true := e
    rw [eqv_dF, decide_eq_true_iff] at e2
    rw [← e2]; exact hg
  · intro h
    refine ⟨f, h, ?_⟩
    show PyData.eqv (dF f) (dF f) = true
    rw [eqv_dF, decide_eq_true rfl]
section
variable {K : PySem.W.Frag} {H : Hp}
theorem dp_fact {f : Str × List Str} {v : V} (h : NkV K H (fk f) v) : Dp K H v (dF f) := by
  obtain ⟨a, b, rfl, h1, h2⟩ := fk_inv h
  exact .tup h1 (.cons (.str _) (.cons (.tup h2 (dp_strs _)) .nil))
theorem dp_rel {r : Str × Int} {v : V} (h : NkV K H (rk r) v) : Dp K H v (dR r) := by
  obtain ⟨a, rfl, h1⟩ := rk_inv h
  exact .tup h1 (.cons (.str _) (.cons (.int _) .nil))
theorem dp_facts : ∀ {fs : List (Str × List Str)} {vs : List V}, NkA K H (fs.map fk) vs → DpAll K H vs (fs.map dF)
  | [], vs, h => by
    rw [List.map_nil] at h
    unfold NkA at h
    rw [h]; exact .nil
  | f :: fs, vs, h => by
    rw [List.map_cons] at h
    unfold NkA at h
    obtain ⟨v, r, rfl, h1, h2⟩ := h
    exact .cons (dp_fact h1) (dp_facts h2)
theorem dp_rels : ∀ {rs : List (Str × Int)} {vs : List V}, NkA K H (rs.map rk) vs → DpAll K H vs (rs.map dR)
  | [], vs, h => by
    rw [List.map_nil] at h
    unfold NkA at h
    rw [h]; exact .nil
  | f :: fs, vs, h => by
    rw [List.map_cons] at h
    unfold NkA at h
    obtain ⟨v, r, rfl, h1, h2⟩ := h
    exact .cons (dp_rel h1) (dp_rels h2)
end
theorem lay_str {x : Str} (h : Wd x) : PyData.canLay0 (.str x) = true := by
  show (x.cps.all fun z => decide (z < 0x110000)) = true
  rw [Array.all_eq_true_iff_forall_mem]
  intro c hc
  have := h.asc c (by simpa using hc)
  simp; omega
theorem lay_strs {l : List Str} (h : ∀ x ∈ l, Wd x) : PyData.canLayAll0 (l.map .str) = true ∧ PyData.depthAll (l.map .str) = 0 := by
  induction l with
  | nil => exact ⟨rfl, rfl⟩
  | cons x l ih =>
    obtain ⟨h1, h2⟩ := ih fun y hy => h y (List.mem_cons_of_mem _ hy)
    refine ⟨?_, ?_⟩
    · show (PyData.canLay0 (.str x) && PyData.canLayAll0 (l.map .str)) = true
      rw [lay_str (h x (List.mem_cons_self ..)), h1]; rfl
    · show max 0 (PyData.depthAll (l.map .str)) = 0
      rw [h2]; rfl
theorem lay_dF {f : Str × List Str} (h : Wd f.1) (h2 : ∀ x ∈ f.2, Wd x) : (dF f).canLay0 = true ∧ (dF f).depth ≤ 8 := by
  obtain ⟨l1, l2⟩ := lay_strs h2
  refine ⟨?_, ?_⟩
  · show (PyData.canLay0 (.str f.1) && (PyData.canLayAll0 (f.2.map .str) && true)) = true
    rw [lay_str h, l1]; rfl
  · show max 0 (max (PyData.depthAll (f.2.map .str) + 1) 0) + 1 ≤ 8
    rw [l2]; decide
theorem lay_dR {r : Str × Int} (h : Wd r.1) : (dR r).canLay0 = true ∧ (dR r).depth ≤ 8 := by
  refine ⟨?_, ?_⟩
  · show (PyData.canLay0 (.str r.1) && (true && true)) = true
    rw [lay_str h]; rfl
  · show max 0 (max 0 0) + 1 ≤ 8
    decide
/-- the words of a fact -/
def Wf (f : Str × List Str) : Prop := Wd f.1 ∧ (∀ x ∈ f.2, Wd x) ∧ f.2.length ≤ 1000
theorem shp_fact {f : Str × List Str} (h : Wf f) : SeqAt.shaped (dF f) = true := by
  obtain ⟨h1, h2⟩ := lay_dF h.1 h.2.1
  show ((dF f).canLay0 && decide ((dF f).depth ≤ 64)) = true
  rw [h1, decide_eq_true (by omega)]; rfl
theorem shp_facts {fs : List (Str × List Str)} (h : ∀ f ∈ fs, Wf f) : SeqAt.shaped (.list (fs.map dF)) = true := by
  refine shp_list fun d hd => ?_
  obtain ⟨f, hf, rfl⟩ := List.mem_map.mp hd
  exact lay_dF (h f hf).1 (h f hf).2.1
theorem shp_rels {rs : List (Str × Int)} (h : ∀ r ∈ rs, Wd r.1) : SeqAt.shaped (.list (rs.map dR)) = true := by
  refine shp_list fun d hd => ?_
  obtain ⟨f, hf, rfl⟩ := List.mem_map.mp hd
  exact lay_dR (h f hf)
theorem eqv_facts (fs : List (Str × List Str)) : PyData.eqv (.list (fs.map dF)) (.list (fs.map dF)) = true := eqvAll_self _ fun d hd => by
  obtain ⟨f, _, rfl⟩ := List.mem_map.mp hd
  rw [eqv_dF, decide_eq_true rfl]
theorem eqv_rels (rs : List (Str × Int)) : PyData.eqv (.list (rs.map dR)) (.list (rs.map dR)) = true := eqvAll_self _ fun d hd => by
  obtain ⟨f, _, rfl⟩ := List.mem_map.mp hd
  rw [eqv_dR, decide_eq_true rfl]
theorem eqv_texts (l : List Str) : PyData.eqv (.list (l.map .str)) (.list (l.map .str)) = true := by
  show PyData.eqvAll _ _ = true
  rw [eqv_strs, decide_eq_true rfl]
theorem eqv_tnil {l : List PyData} : PyData.eqv (.tuple l) (.tuple []) = l.isEmpty := by cases l <;> rfl
theorem shp_tnil : SeqAt.shaped (.tuple []) = true := by decide
theorem shp_ttexts {l : List Str} (h : ∀ x ∈ l, Wd x) : SeqAt.shaped (.tuple (l.map .str)) = true := by
  obtain ⟨l1, l2⟩ := lay_strs h
  show (PyData.canLayAll0 (l.map .str) && decide (PyData.depthAll (l.map .str) + 1 ≤ 64)) = true
  rw [l1, l2]; rfl
end Lw
set_option Elab.async false
set_option linter.all false
set_option maxRecDepth 100000
set_option maxHeartbeats 4000000
/-! comprehensions whose items are new tuples -/
namespace Gx
open PySem PySem.Spec PyProof.Rows L2
theorem op_catAK {X : Cx} {K : PySem.W.Frag} (h : X.K = K) : OpR X (binaryOp .Add) (rCatA K) := by subst h; exact op_catA
end Gx
namespace Lw
open PySem PySem.Spec PyProof.Rows L2 Gx Sn
section
variable {K : PySem.W.Frag} {g : TG} {tt : TT} {te : TE}
theorem nkA_add {H H4 : Hp} {D : Addr} {ks : List NestedKey} {k : NestedKey} {acc : List V} {y : V} (x : Xt H H4) (hD : H4 D = some (.lst acc)) (h : NkA K H ks acc) (hy : NkV K H4 k y) : NkA K (upd H4 D (.lst (acc ++ [y]))) (ks ++ [k]) (acc ++ [y]) :=
  nkA_app (nkA_tk (.lst hD) _ _ (nkA_tk (.of_xt x) _ _ h)) (nkA_cons (nkV_tk (.lst hD) _ _ hy) nkA_nil)
theorem lck_by {α : Type} {vs : List Nat} {σ : L2.St} {H1 : Hp} {D : Addr} {Qd : Hp → Prop} {a : Addr} {xs : List V} (ks : List α) (f : α → NestedKey) (hlen : xs.length = ks.length) (hl : SqL K H1 a xs) (hD : H1 D = none) (hz : ks.length ≤ sizeLine)
    (hs : ∀ (i : Nat) v k, xs[i]? = some v → ks[i]? = some k → ∀ H' (Y : V → Hp → Prop) (N : Hp → Prop), Xt H1 H' → (∀ H2 y, Xt H' H2 → NkV K H2 (f k) y → Y y H2) →
      g v (wipe σ vs) H' fun σ2 H2 => wipe σ2 vs = wipe σ vs ∧ tt σ2 H2 fun b H3 => if b = true then te σ2 H3 Y else N H3)
    (hd : ∀ H' ys, Xt H1 H' → H' D = some (.lst ys) → NkA K H' (ks.map f) ys → Qd H') :
    ∃ W : Nat → Nat → Hp → Prop, (∃ m, W 0 m (upd H1 D (.lst []))) ∧ ∀ i m H, W i m H →
      ((Itl K a).stop i H ∧ Qd H) ∨ ((Itl K a).go i H ∧ ∃ Nx : Hp → Prop, (∀ H', Nx H' → ∃ m', m' < m ∧ W (i + 1) m' H') ∧ ∀ v H', (Itl K a).yld i H v H' → g v (wipe σ vs) H' fun σ2 H2 => wipe σ2 vs = wipe σ vs ∧ tt σ2 H2 fun b H3 =>
        if b = true then te σ2 H3 fun y H4 => ∃ acc, H4 D = some (.lst acc) ∧ acc.length < sizeLine ∧ Nx (upd H4 D (.lst (acc ++ [y]))) else Nx H3) := by
  refine lc_list (xs := xs) (fun i H' => Xt H1 H' ∧ ∃ ys, H' D = some (.lst ys) ∧ NkA K H' ((ks.take i).map f) ys) ⟨Xt.new hD, _, upd_same .., nkA_nil⟩ (fun i H' _ hp => hp.1.sqL hl) (fun i c H' hc hp => ?_) (fun H' hp => ?_)
  · obtain ⟨xt, ys, hp, hk⟩ := hp
    have hi : i < ks.length := by rw [← hlen]; exact (List.getElem?_eq_some_iff.mp hc).1
    have hki := List.getElem?_eq_getElem hi
    refine hs i c _ hc hki H' _ _ xt (fun H2 y x2 e => ⟨_, x2.lst hp, ?_, (xt.trans x2).mut hD, _, upd_same .., ?_⟩)
    · rw [nkA_len hk, List.length_map]
      exact Nat.lt_of_le_of_lt (by rw [List.length_take]; exact Nat.min_le_left ..) (Nat.lt_of_lt_of_le hi hz)
    · rw [List.take_add_one, hki, List.map_append]
      exact nkA_add x2 (x2.lst hp) hk e
  · obtain ⟨xt, ys, hp, hk⟩ := hp
    rw [hlen, List.take_length] at hk
    exact hd H' ys xt hp hk
theorem lck_str {vs : List Nat} {σ : L2.St} {H1 : Hp} {D : Addr} {Qd : Hp → Prop} {x : Str} (f : Nat → NestedKey) (hD : H1 D = none) (hz : x.cps.toList.length ≤ sizeLine)
    (hs : ∀ v ∈ x.cps.toList, ∀ H' (Y : V → Hp → Prop) (N : Hp → Prop), Xt H1 H' → (∀ H2 y, Xt H' H2 → NkV K H2 (f v) y → Y y H2) →
      g (.str ⟨#[v]⟩) (wipe σ vs) H' fun σ2 H2 => wipe σ2 vs = wipe σ vs ∧ tt σ2 H2 fun b H3 => if b = true then te σ2 H3 Y else N H3)
    (hd : ∀ H' ys, Xt H1 H' → H' D = some (.lst ys) → NkA K H' (x.cps.toList.map f) ys → Qd H') :
    ∃ W : Nat → Nat → Hp → Prop, (∃ m, W 0 m (upd H1 D (.lst []))) ∧ ∀ i m H, W i m H →
      ((Its x).stop i H ∧ Qd H) ∨ ((Its x).go i H ∧ ∃ Nx : Hp → Prop, (∀ H', Nx H' → ∃ m', m' < m ∧ W (i + 1) m' H') ∧ ∀ v H', (Its x).yld i H v H' → g v (wipe σ vs) H' fun σ2 H2 => wipe σ2 vs = wipe σ vs ∧ tt σ2 H2 fun b H3 =>
        if b = true then te σ2 H3 fun y H4 => ∃ acc, H4 D = some (.lst acc) ∧ acc.length < sizeLine ∧ Nx (upd H4 D (.lst (acc ++ [y]))) else Nx H3) := by
  refine lc_str (fun i H' => Xt H1 H' ∧ ∃ ys, H' D = some (.lst ys) ∧ NkA K H' ((x.cps.toList.take i).map f) ys) ⟨Xt.new hD, _, upd_same .., nkA_nil⟩ (fun i c H' hc hp => ?_) (fun H' hp => ?_)
  · obtain ⟨xt, ys, hp, hk⟩ := hp
    have hc' : (x.cps.toList)[i]? = some c := by rw [Array.getElem?_toList]; exact hc
    have hi : i < (x.cps.toList).length := (List.getElem?_eq_some_iff.mp hc').1
    refine hs c (List.mem_of_getElem? hc') H' _ _ xt (fun H2 y x2 e => ⟨_, x2.lst hp, ?_, (xt.trans x2).mut hD, _, upd_same .., ?_⟩)
    · rw [nkA_len hk, List.length_map]
      exact Nat.lt_of_le_of_lt (by rw [List.length_take]; exact Nat.min_le_left ..) (Nat.lt_of_lt_of_le hi hz)
    · rw [List.take_add_one, hc', List.map_append]
      exact nkA_add x2 (x2.lst hp) hk e
  · obtain ⟨xt, ys, hp, hk⟩ := hp
    rw [show x.cps.size = x.cps.toList.length from Array.length_toList.symm, List.take_length] at hk
    exact hd H' ys xt hp hk
end
end Lw
namespace Lw
open PySem PySem.Spec PyProof.Rows L2 Gx Sn
section
variable {K : PySem.W.Frag}
theorem nn_rels {σ : L2.St} {H : Hp} {D : Addr} {us : List V} {rs : List (Str × Int)} {Q : VK} (hl : H D = some (.lst us)) (hk : NkA K H (rs.map rk) us) (hw : ∀ r ∈ rs, Wd r.1) (q : ∀ H1, Xt H H1 → Q (.bl (!rs.isEmpty)) H1) :
    tLst tNil σ H (fun y H2 => rNeD K (.ref D) y H2 Q) := by
  refine ⟨Nat.zero_le _, fun l hl2 => ⟨_, _, .lst (.inl (.inl ((Xt.new hl2).lst hl))) (dp_rels (nkA_tk (.new hl2) _ _ hk)), .lst (.inl (.inl (upd_same ..))) .nil, shp_rels hw, shp_nil, ?_⟩⟩
  rw [eqv_nil, map_isEmpty]
  exact q _ (Xt.new hl2)
theorem nn_facts {σ : L2.St} {H : Hp} {D : Addr} {us : List V} {rs : List (Str × List Str)} {Q : VK} (hl : H D = some (.lst us)) (hk : NkA K H (rs.map fk) us) (hw : ∀ r ∈ rs, Wf r) (q : ∀ H1, Xt H H1 → Q (.bl (!rs.isEmpty)) H1) :
    tLst tNil σ H (fun y H2 => rNeD K (.ref D) y H2 Q) := by
  refine ⟨Nat.zero_le _, fun l hl2 => ⟨_, _, .lst (.inl (.inl ((Xt.new hl2).lst hl))) (dp_facts (nkA_tk (.new hl2) _ _ hk)), .lst (.inl (.inl (upd_same ..))) .nil, shp_facts hw, shp_nil, ?_⟩⟩
  rw [eqv_nil, map_isEmpty]
  exact q _ (Xt.new hl2)
end
theorem mulOk_sign {c : Nat} {n : Int} (h0 : 0 ≤ n) (h : n ≤ 100) : PySem.MulOk ⟨#[c]⟩ n := by
  unfold PySem.MulOk
  have zl : 100000 ≤ sizeLine := by decide
  refine ⟨by rw [decide_eq_false (by omega), decide_eq_false (by omega)]; rfl, fun h1 _ => ?_, fun h1 _ => ?_⟩
  · have h2 : (1 : Int) ≤ (2 ^ 63 - 1) / n := (Int.le_ediv_iff_mul_le (by omega)).mpr (by omega)
    show ¬ ((1 : Int) > (2 ^ 63 - 1) / n)
    omega
  · unfold Builtin.Str.tooLong
    show decide (1 * n.toNat > sizeLine) = false
    exact decide_eq_false (by omega)
theorem sm_mul {c : Nat} {n : Int} {m : Nat} (hc : c < 128) (h : n ≤ (m : Int)) : Sm m (Txt.mul ⟨#[c]⟩ n) := by
  refine ⟨len_mul_one rfl h, fun e he => ?_⟩
  rw [show cl (Txt.mul ⟨#[c]⟩ n) = List.replicate n.toNat c from mul_one_list c n] at he
  rw [(List.mem_replicate.mp he).2]
  exact hc
end Lw
set_option Elab.async false
set_option linter.all false
set_option maxRecDepth 100000
set_option maxHeartbeats 4000000
/-! sorted of tuples of ints, any number of them, of any lengths but none -/
namespace Sq
open PySem PySem.Spec PyProof.Rows L2
/-- one list of ints ahead of another -/
def lexI : List Int → List Int → Bool
  | [], [] => false
  | [], _ :: _ => true
  | _ :: _, [] => false
  | x :: l, y :: m => if x = y then lexI l m else decide (x < y)
theorem lexI_asym : ∀ l m, lexI l m = true → lexI m l = false
  | [], [], h => by cases h
  | [], _ :: _, _ => rfl
  | _ :: _, [], h => by cases h
  | x :: l, y :: m, h => by
    unfold lexI at h ⊢
    by_cases e : x = y
    · rw [if_pos e] at h
      rw [if_pos e.symm]
      exact lexI_asym l m h
    · rw [if_neg e] at h
      have h' : x < y := of_decide_eq_true h
      rw [if_neg fun z => e z.symm]
      exact decide_eq_false (by omega)
theorem lexI_tr : ∀ l m n, lexI m l = false → lexI n m = false → lexI n l = false
  | [], _, [], _, _ => rfl
  | [], _, _ :: _, _, _ => rfl
  | _ :: _, [], _, h, _ => by cases h
  | _ :: _, _ :: _, [], _, k => by cases k
  | x :: l, y :: m, z :: n, h, k => by
    unfold lexI at h k ⊢
    by_cases e : y = x
    · subst e
      rw [if_pos rfl] at h
      by_cases e2 : z = y
      · rw [if_pos e2] at k ⊢
        exact lexI_tr l m n h k
      · rw [if_neg e2] at k ⊢
        exact k
    · rw [if_neg e] at h
      have h' : ¬ y < x := of_decide_eq_false h
      by_cases e2 : z = y
      · subst e2
        rw [if_neg e]
        exact decide_eq_false h'
      · rw [if_neg e2] at k
        have k' : ¬ z < y := of_decide_eq_false k
        rw [if_neg (by omega)]
        exact decide_eq_false (by omega)
theorem lexI_refl (l : List Int) : lexI l l = false := by
  cases h : lexI l l with
  | false => rfl
  | true => exact (lexI_asym l l h) ▸ h ▸ rfl
theorem lexI_eq : ∀ l m, lexI l m = false → lexI m l = false → l = m
  | [], [], _, _ => rfl
  | [], _ :: _, h, _ => by cases h
  | _ :: _, [], _, h => by cases h
  | x :: l, y :: m, h, k => by
    unfold lexI at h k
    by_cases e : x = y
    · rw [if_pos e] at h
      rw [if_pos e.symm] at k
      rw [e, lexI_eq l m h k]
    · rw [if_neg e] at h
      rw [if_neg fun z => e z.symm] at k
      have h' : ¬ x < y := of_decide_eq_false h
      have k' : ¬ y < x := of_decide_eq_false k
      omega
theorem lexI_swo {α : Type} (f : α → List Int) : SrtO.Swo fun u v => lexI (f u) (f v) :=
  ⟨fun _ _ h => lexI_asym _ _ h, fun _ _ _ h k => lexI_tr _ _ _ h k⟩
/-- two sorted rearrangements are the same -/
theorem sorted_uniq : ∀ {l m : List (List Int)}, l.Perm m → l.Pairwise (fun u v => lexI v u = false) → m.Pairwise (fun u v => lexI v u = false) → l = m
  | [], m, p, _, _ => (List.Perm.eq_nil p.symm).symm
  | x :: l, [], p, _, _ => absurd p.length_eq (by simp)
  | x :: l, y :: m, p, hl, hm => by
    have e : x = y := by
      have h1 : lexI y x = false := by
        rcases List.mem_cons.mp (p.mem_iff.mpr (List.mem_cons_self (a := y) (l := m))) with e | h
        · rw [e]; exact lexI_refl _
        · exact (List.pairwise_cons.mp hl).1 _ h
      have h2 : lexI x y = false := by
        rcases List.mem_cons.mp (p.mem_iff.mp (List.mem_cons_self (a := x) (l := l))) with e | h
        · rw [e]; exact lexI_refl _
        · exact (List.pairwise_cons.mp hm).1 _ h
      exact lexI_eq _ _ h2 h1
    subst e
    rw [sorted_uniq p.cons_inv (List.pairwise_cons.mp hl).2 (List.pairwise_cons.mp hm).2]
section
variable {prog : Program} {w : World} {A : Around} {s : Shared} {Q : Bool → Shared → Prop}
theorem lex_any {b fin : Bool} : ∀ {ns ms : List Int} {us vs : List Value} (i : Nat), IntsAre us ns → IntsAre vs ms → fin = decide (ns.length < ms.length) → Q (lexI ns ms) s →
    PySem.W.KatLex prog w A b fin Q (us.zip vs) i s
  | [], [], _, _, i, .nil, .nil, e, q => PySem.W.kat_nil (by rw [e]; exact q)
  | [], _ :: _, _, _, i, .nil, .cons _ _ _, e, q => PySem.W.kat_nil (by rw [e, decide_eq_true (by simp)]; exact q)
  | _ :: _, [], _, _, i, .cons _ _ _, .nil, e, q => PySem.W.kat_nil (by rw [e, decide_eq_false (by simp)]; exact q)
  | x :: ns, y :: ms, _, _, i, .cons _ t h1, .cons _ u h2, e, q => by
    refine PySem.W.kat_cons (wpAny_eqBool_int ?_)
    unfold lexI at q
    by_cases exy : x = y
    · subst exy
      rw [if_pos rfl] at q
      rw [beq_self_eq_true]
      exact PySem.W.kat_yes (lex_any (i + 1) h1 h2 (e.trans (decide_eq_decide.mpr (by simp))) q)
    · rw [if_neg exy] at q
      rw [beq_eq_false_iff_ne.mpr exy]
      exact PySem.W.kat_no (TS.oneLt_ints _ q)
end
section
variable {prog : Program} {w : World} {A : Around} {E : Value → Shared → Prop} {s : Shared}
/-- tuples of ints, none of them empty, in the heap -/
def Tups (h : Heap) (k : Value → List Int) (us : List Value) : Prop := ∀ v ∈ us, TS.TupInts h v (k v) ∧ k v ≠ []
theorem Tups.keeps {h h' : Heap} {k : Value → List Int} {us : List Value} (x : Tups h k us) (kp : ∀ b o, h.get? b = some o → o.cls = .type "tuple" → h'.get? b = some o) : Tups h' k us := fun v hv => ⟨(x v hv).1.keeps kp, (x v hv).2⟩
theorem firsts {h : Heap} {k : Value → List Int} : ∀ us : List Value, Tups h k us → ∃ fs, PySem.W.KatTups h us fs ∧ fs.length = us.length ∧ ∀ f ∈ fs, ∃ n t, f = Value.int n t
  | [], _ => ⟨[], .nil, rfl, fun f hf => by cases hf⟩
  | v :: us, x => by
    obtain ⟨fs, p, hl, hi⟩ := firsts us fun u hu => x u (List.mem_cons_of_mem _ hu)
    obtain ⟨⟨a, xs, rfl, ⟨o, ho, hc, n, hdt⟩, i⟩, ne⟩ := x v (List.mem_cons_self ..)
    generalize k (.ref a) = ns at i ne
    have hxs : xs = xs.toList.toArray := by rw [Array.toArray_toList]
    generalize xs.toList = ys at i hxs
    subst hxs
    cases i with
    | nil => exact absurd rfl ne
    | cons z t h' =>
      refine ⟨.int z t :: fs, .cons ho hc hdt (by simp) p, by simp [hl], fun f hf => ?_⟩
      rcases List.mem_cons.mp hf with rfl | hf
      · exact ⟨z, t, rfl⟩
      · exact hi f hf
theorem tups_cmp {k : Value → List Int} {us : List Value} (hp : Tups s.heap k us) : SrtO.Cmp prog w A s (tuples' true) (fun p => p.1 ∈ us) (SrtO.lt2 fun u v => lexI (k u) (k v)) := by
  intro p q hm hm'
  obtain ⟨⟨a, xs, e1, ⟨o, ho, hc, n, hd⟩, i⟩, _⟩ := hp _ hm
  obtain ⟨⟨b, ys, e2, ⟨o', ho', hc', n', hd'⟩, i'⟩, _⟩ := hp _ hm'
  show wpAny (model prog w) A (keyLt' (tuples' true) p.1 q.1) (fun r s' => s' = s ∧ r = lexI (k p.1) (k q.1)) (fun _ _ => False) s
  rw [e1, e2] at *
  refine PySem.W.kat_lt ho hd ho' hd' (lex_any 0 i i' ?_ ⟨rfl, rfl⟩)
  have l1 := i.length
  have l2 := i'.length
  rw [Array.length_toList] at l1 l2
  rw [l1, l2]
theorem tups_sortable {a : Addr} {k : Value → List Int} {us : List Value} (h0 : 2 ≤ us.length) (hp : Tups s.heap k us) (ha : ∀ o, s.heap.get? a = some o → o.cls ≠ .type "tuple") : SrtO.SortableO prog w A s a us fun u v => lexI (k u) (k v) := by
  intro h' keep
  have hp' : Tups h' k us := hp.keeps fun b o e c => keep b o (fun z => by rw [z] at e; exact ha o e c) e
  obtain ⟨fs, h1, h2, h3⟩ := firsts us hp'
  refine ⟨tuples' true, fun Q E hq => ?_, tups_cmp (s := { s with heap := h' }) hp'⟩
  refine PySem.W.kat_kind (T := .type "int") h1 (by omega) (fun f hm => ?_) (by rfl) hq
  obtain ⟨x, t, rfl⟩ := h3 f hm
  exact PySem.W.Looks.now
end
/-- the ints of a tuple, as the heap has them -/
def intV : V → Int
  | .int i => i
  | _ => 0
def tk (H : Hp) : V → List Int
  | .ref a => match H a with
    | some (.tup xs) => xs.map intV
    | _ => []
  | _ => []
theorem tk_of {H : Hp} {a : Addr} {ns : List Int} (h : H a = some (.tup (ns.map V.int))) : tk H (.ref a) = ns := by
  show (match H a with | some (.tup xs) => xs.map intV | _ => []) = ns
  rw [h]
  show (ns.map V.int).map intV = ns
  simp [Function.comp_def, intV]
/-- sorted(xs), xs a list of tuples of ints -/
def rSortTI (K : PySem.W.Frag) : List V → Hp → VK → Prop := fun vs H Q => ∃ (a : Addr) (xs : List V), vs = [V.ref a] ∧ SqL K H a xs ∧ (∀ x ∈ xs, ∃ t ns, x = V.ref t ∧ H t = some (.tup (ns.map V.int)) ∧ (xs.length < 2 ∨ ns ≠ [])) ∧
  ∀ ys p, ys.Perm xs → (ys.map (tk H)).Pairwise (fun u v => lexI v u = false) → H p = none → Q (.ref p) (upd H p (.lst ys))
section
variable {X : Cx}
theorem cr_sortedTI : CallR X (.builtin "sorted") (rSortTI X.K) := by
  intro pins s σ H vs us Q I r h
  obtain ⟨a, xs, rfl, hs, hx, q⟩ := h
  obtain ⟨its, rv, hl, hz⟩ := I.list hs
  obtain ⟨u, rfl, ru⟩ := vals1 r
  obtain rfl : u = Value.ref a := ru
  obtain ⟨e1, e2⟩ := refs_back rv fun x m => by
    obtain ⟨t, _, e, _⟩ := hx x m
    exact ⟨t, e⟩
  have hT : 2 ≤ its.length → Tups s.heap (fun u => tk H (backV u)) its := fun h2 v hv => by
    obtain ⟨t, rfl⟩ := e2 v hv
    have hm : V.ref t ∈ xs := by rw [e1]; exact List.mem_map.mpr ⟨_, hv, rfl⟩
    obtain ⟨t', ns, e, ht, hne⟩ := hx _ hm
    cases e
    obtain ⟨_, its2, r2, o, ho, hc, n, hd⟩ := I.hok _ _ ht
    have e3 : tk H (backV (.ref t)) = ns := tk_of ht
    show TS.TupInts s.heap (.ref t) (tk H (backV (.ref t))) ∧ tk H (backV (.ref t)) ≠ []
    rw [e3]
    refine ⟨⟨t, _, rfl, ⟨o, ho, hc, n, hd⟩, by simpa using Vals.ints r2⟩, ?_⟩
    rcases hne with h | h
    · rw [rv.length] at h
      omega
    · exact h
  have hOk : its.length ≤ sizeLine := by rw [← rv.length]; exact hz
  refine SrtO.sorted_ord (ltv := fun u v => lexI (tk H (backV u)) (tk H (backV v))) (lexI_swo _) hl.isList hOk (fun h2 h₁ b hb kk => tups_sortable h2 ((hT h2).keeps fun c o e _ => (kk c o e).2) fun o e => ?_) fun out hs1 hb1 => ?_
  · rw [hb] at e
    cases e
    exact fun c => absurd (Value.type.inj c) (by decide)
  · have h3 : ∀ u ∈ out, ∃ a, u = Value.ref a := fun u hu => e2 u (hb1.perm.mem_iff.mp hu)
    obtain ⟨ep, hat⟩ := sortedAll_at s.heap its out.toArray
    have hpm : (out.map backV).Perm xs := by rw [e1]; exact hb1.perm.map backV
    refine ⟨.ref (s.heap.objs.size + 1), upd H (s.heap.objs.size + 1) (.lst (out.map backV)), I.laid (t' := s.toks) (fun b o e => sortedAll_old e) (Nat.le_succ _) ⟨by rw [hpm.length_eq]; exact hz, out, ep, vals_back h3, hat⟩, rfl, q _ _ hpm ?_ (I.hok.fresh (Nat.le_succ _))⟩
    rw [List.map_map]
    exact List.pairwise_map.mpr hs1
end
end Sq
set_option Elab.async false
set_option linter.all false
set_option maxRecDepth 100000
set_option maxHeartbeats 4000000
/-! walks of any kind; rows of naturals; tables by numbers -/
namespace Wq
open PySem PySem.Spec PyProof.Rows L2 Gx
theorem walk_by {J : It} {H0 : Hp} {A : Hp → Prop} {X : V → Hp → (Hp → Prop) → Prop} (n : Nat) (Pv : Nat → Hp → Prop) (h0 : Pv 0 H0) (hgo : ∀ i H, i < n → Pv i H → J.go i H) (hst : ∀ H, Pv n H → J.stop n H)
    (hs : ∀ i x H H', i < n → Pv i H → J.yld i H x H' → X x H' (Pv (i + 1))) (hd : ∀ H, Pv n H → A H) :
    ∃ W : Nat → Nat → Hp → Prop, (∃ m, W 0 m H0) ∧ ∀ i m H, W i m H → (J.stop i H ∧ A H) ∨ (J.go i H ∧ ∃ Nx : Hp → Prop, (∀ H', Nx H' → ∃ m', m' < m ∧ W (i + 1) m' H') ∧ ∀ x H', J.yld i H x H' → X x H' Nx) := by
  refine ⟨fun i m H => m = n - i ∧ i ≤ n ∧ Pv i H, ⟨n, by omega, Nat.zero_le _, h0⟩, ?_⟩
  rintro i m H ⟨rfl, hi, p⟩
  by_cases hlt : i < n
  · exact .inr ⟨hgo i H hlt p, Pv (i + 1), fun H' p' => ⟨n - (i + 1), by omega, rfl, by omega, p'⟩, fun x H' y => hs i x H H' hlt p y⟩
  · have e : i = n := by omega
    subst e
    exact .inl ⟨hst H p, hd H p⟩
theorem walk_list {K : PySem.W.Frag} {a : Addr} {xs : List V} {H0 : Hp} {A : Hp → Prop} {X : V → Hp → (Hp → Prop) → Prop} (Pv : Nat → Hp → Prop) (h0 : Pv 0 H0) (hl : ∀ i H, Pv i H → SqL K H a xs)
    (hs : ∀ i x H, xs[i]? = some x → Pv i H → X x H (Pv (i + 1))) (hd : ∀ H, Pv xs.length H → A H) :
    ∃ W : Nat → Nat → Hp → Prop, (∃ m, W 0 m H0) ∧ ∀ i m H, W i m H → ((Itl K a).stop i H ∧ A H) ∨ ((Itl K a).go i H ∧ ∃ Nx : Hp → Prop, (∀ H', Nx H' → ∃ m', m' < m ∧ W (i + 1) m' H') ∧ ∀ x H', (Itl K a).yld i H x H' → X x H' Nx) :=
  walk_by xs.length Pv h0 (fun i H h p => ⟨xs, xs[i], hl i H p, by simp [h]⟩) (fun H p => ⟨xs, hl _ H p, Nat.le_refl _⟩) (fun i x H H' h p ⟨e, y⟩ => by subst e; exact hs i x _ (y xs (hl i _ p)) p) hd
theorem walk_tup {K : PySem.W.Frag} {a : Addr} {xs : List V} {H0 : Hp} {A : Hp → Prop} {X : V → Hp → (Hp → Prop) → Prop} (Pv : Nat → Hp → Prop) (h0 : Pv 0 H0) (hl : ∀ i H, Pv i H → SqT K H a xs)
    (hs : ∀ i x H, xs[i]? = some x → Pv i H → X x H (Pv (i + 1))) (hd : ∀ H, Pv xs.length H → A H) :
    ∃ W : Nat → Nat → Hp → Prop, (∃ m, W 0 m H0) ∧ ∀ i m H, W i m H → ((Itt K a).stop i H ∧ A H) ∨ ((Itt K a).go i H ∧ ∃ Nx : Hp → Prop, (∀ H', Nx H' → ∃ m', m' < m ∧ W (i + 1) m' H') ∧ ∀ x H', (Itt K a).yld i H x H' → X x H' Nx) :=
  walk_by xs.length Pv h0 (fun i H h p => ⟨xs, xs[i], hl i H p, by simp [h]⟩) (fun H p => ⟨xs, hl _ H p, Nat.le_refl _⟩) (fun i x H H' h p ⟨e, y⟩ => by subst e; exact hs i x _ (y xs (hl i _ p)) p) hd
theorem walk_enum {K : PySem.W.Frag} {a : Addr} {xs : List V} {H0 : Hp} {A : Hp → Prop} {X : V → Hp → (Hp → Prop) → Prop} (Pv : Nat → Hp → Prop) (h0 : Pv 0 H0) (hl : ∀ i H, Pv i H → SqL K H a xs)
    (hs : ∀ i x T H, xs[i]? = some x → Pv i H → H T = none → X (.ref T) (upd H T (.tup [.int (i : Nat), x])) (Pv (i + 1))) (hd : ∀ H, Pv xs.length H → A H) :
    ∃ W : Nat → Nat → Hp → Prop, (∃ m, W 0 m H0) ∧ ∀ i m H, W i m H → ((Ite K a).stop i H ∧ A H) ∨ ((Ite K a).go i H ∧ ∃ Nx : Hp → Prop, (∀ H', Nx H' → ∃ m', m' < m ∧ W (i + 1) m' H') ∧ ∀ x H', (Ite K a).yld i H x H' → X x H' Nx) :=
  walk_by xs.length Pv h0 (fun i H h p => ⟨xs, xs[i], hl i H p, by simp [h]⟩) (fun H p => ⟨xs, hl _ H p, Nat.le_refl _⟩) (fun i x H H' h p ⟨T, v, e1, e2, e3, y⟩ => by subst e1 e3; exact hs i v T _ (y xs (hl i _ p)) p e2) hd
theorem walk_rng {lo : Int} {n : Nat} {H0 : Hp} {A : Hp → Prop} {X : V → Hp → (Hp → Prop) → Prop} (Pv : Nat → Hp → Prop) (h0 : Pv 0 H0)
    (hs : ∀ (i : Nat) H, i < n → Pv i H → X (.int (lo + i)) H (Pv (i + 1))) (hd : ∀ H, Pv n H → A H) :
    ∃ W : Nat → Nat → Hp → Prop, (∃ m, W 0 m H0) ∧ ∀ i m H, W i m H → ((Itr lo n).stop i H ∧ A H) ∨ ((Itr lo n).go i H ∧ ∃ Nx : Hp → Prop, (∀ H', Nx H' → ∃ m', m' < m ∧ W (i + 1) m' H') ∧ ∀ x H', (Itr lo n).yld i H x H' → X x H' Nx) :=
  walk_by n Pv h0 (fun i H h p => h) (fun H p => Nat.le_refl _) (fun i x H H' h p ⟨e, y⟩ => by subst e y; exact hs i _ h p) hd

/-- truth of a value, by a name that is not unfolded -/
def tTru (K : PySem.W.Frag) (te : TE) : TT := fun σ H Q => te σ H fun x H1 => ∃ k, TruV K x H1 k ∧ Q k H1
theorem pt_tru {X : Cx} {K : PySem.W.Frag} {e : Expr} {te : TE} (h : X.K = K) (pe : PE X e te) (hb : ∀ u, isTrue e X.env u = (do let v ← u; standAt e.pos; holding [v] (truthy v))) : PT X e (tTru K te) := by
  subst h
  exact pt_truth pe hb
/-! ### rows of naturals -/
/-- ints from naturals -/
abbrev nI (l : List Nat) : List V := l.map fun n : Nat => V.int (n : Int)
theorem nI_at {l : List Nat} {i : Nat} {v : V} (h : (nI l)[i]? = some v) : ∃ n : Nat, l[i]? = some n ∧ v = .int (n : Int) := by
  rw [List.getElem?_map] at h
  obtain ⟨n, h1, h2⟩ := Option.map_eq_some_iff.mp h
  exact ⟨n, h1, h2.symm⟩
theorem nI_len (l : List Nat) : (nI l).length = l.length := List.length_map ..
theorem nI_int (l : List Nat) : nI l = (l.map fun n : Nat => (n : Int)).map V.int := by simp
/-- a value is a tuple of these -/
def RowV (H : Hp) (row : List Nat) (v : V) : Prop := ∃ t, v = .ref t ∧ H t = some (.tup (nI row))
theorem RowV.xt {H H' : Hp} {row : List Nat} {v : V} (x : Xt H H') (h : RowV H row v) : RowV H' row v := by
  obtain ⟨t, e, h⟩ := h
  exact ⟨t, e, x.tup h⟩
theorem RowV.tk {H H' : Hp} {row : List Nat} {v : V} (x : Lw.Tk H H') (h : RowV H row v) : RowV H' row v := by
  obtain ⟨t, e, h⟩ := h
  exact ⟨t, e, x.t _ _ h⟩
inductive RowA (H : Hp) : List (List Nat) → List V → Prop
  | nil : RowA H [] []
  | cons {r : List Nat} {v : V} {rs : List (List Nat)} {vs : List V} : RowV H r v → RowA H rs vs → RowA H (r :: rs) (v :: vs)
theorem RowA.len {H : Hp} : ∀ {rs : List (List Nat)} {vs : List V}, RowA H rs vs → vs.length = rs.length
  | [], _, .nil => rfl
  | _ :: _, _, .cons _ h => by rw [List.length_cons, List.length_cons, h.len]
theorem RowA.tk {H H' : Hp} (x : Lw.Tk H H') : ∀ {rs : List (List Nat)} {vs : List V}, RowA H rs vs → RowA H' rs vs
  | _, _, .nil => .nil
  | _, _, .cons h1 h2 => .cons (h1.tk x) (h2.tk x)
theorem RowA.xt {H H' : Hp} (x : Xt H H') {rs : List (List Nat)} {vs : List V} (h : RowA H rs vs) : RowA H' rs vs := h.tk (.of_xt x)
theorem RowA.app {H : Hp} : ∀ {rs : List (List Nat)} {vs : List V} {qs : List (List Nat)} {us : List V}, RowA H rs vs → RowA H qs us → RowA H (rs ++ qs) (vs ++ us)
  | _, _, _, _, .nil, h => h
  | _, _, _, _, .cons h1 h2, h => .cons h1 (h2.app h)
theorem RowA.at {H : Hp} : ∀ {rs : List (List Nat)} {vs : List V}, RowA H rs vs → ∀ {i : Nat} {v : V}, vs[i]? = some v → ∃ r, rs[i]? = some r ∧ RowV H r v
  | _, _, .nil, i, v, e => by cases e
  | _, _, .cons h1 h2, 0, v, e => by cases e; exact ⟨_, rfl, h1⟩
  | _, _, .cons h1 h2, i + 1, v, e => h2.at (i := i) e
theorem RowA.get {H : Hp} {rs : List (List Nat)} {vs : List V} (h : RowA H rs vs) {i : Nat} {r : List Nat} (e : rs[i]? = some r) : ∃ v, vs[i]? = some v ∧ RowV H r v := by
  have hi : i < vs.length := by rw [h.len]; exact (List.getElem?_eq_some_iff.mp e).1
  obtain ⟨r', e', q⟩ := h.at (List.getElem?_eq_getElem hi)
  rw [e] at e'
  cases e'
  exact ⟨_, List.getElem?_eq_getElem hi, q⟩
theorem RowA.mem {H : Hp} {rs : List (List Nat)} {vs : List V} (h : RowA H rs vs) {v : V} (e : v ∈ vs) : ∃ r ∈ rs, RowV H r v := by
  obtain ⟨i, hi⟩ := List.getElem?_of_mem e
  obtain ⟨r, e1, e2⟩ := h.at hi
  exact ⟨r, List.mem_of_getElem? e1, e2⟩
/-- rearranged -/
theorem RowA.perm {H : Hp} {ws vs : List V} (p : ws.Perm vs) : ∀ {rs : List (List Nat)}, RowA H rs vs → ∃ qs, qs.Perm rs ∧ RowA H qs ws := by
  induction p with
  | nil => exact fun h => by cases h; exact ⟨[], .refl _, .nil⟩
  | cons v p ih =>
    intro rs h
    cases h with
    | cons h1 h2 =>
      obtain ⟨qs, p2, h3⟩ := ih h2
      exact ⟨_ :: qs, p2.cons _, .cons h1 h3⟩
  | swap v u l =>
    intro rs h
    cases h with
    | cons h1 h2 =>
      cases h2 with
      | cons h3 h4 => exact ⟨_ :: _ :: _, .swap .., .cons h3 (.cons h1 h4)⟩
  | trans p1 p2 ih1 ih2 =>
    intro rs h
    obtain ⟨qs, q1, h1⟩ := ih2 h
    obtain ⟨ps, q2, h2⟩ := ih1 h1
    exact ⟨ps, q2.trans q1, h2⟩
theorem RowV.key {H : Hp} {r : List Nat} {v : V} (h : RowV H r v) : Sq.tk H v = r.map fun n : Nat => (n : Int) := by
  obtain ⟨t, rfl, h⟩ := h
  exact Sq.tk_of (by rw [h, nI_int])
theorem RowA.keys {H : Hp} : ∀ {rs : List (List Nat)} {vs : List V}, RowA H rs vs → vs.map (Sq.tk H) = rs.map fun r => r.map fun n : Nat => (n : Int)
  | _, _, .nil => rfl
  | _, _, .cons h1 h2 => by rw [List.map_cons, List.map_cons, h1.key, h2.keys]
/-- one list of naturals ahead of another -/
def lexN (l m : List Nat) : Bool := Sq.lexI (l.map fun n : Nat => (n : Int)) (m.map fun n : Nat => (n : Int))
def SrtN (rs : List (List Nat)) : Prop := rs.Pairwise fun u v => lexN v u = false
theorem natI_inj : ∀ {l m : List Nat}, (l.map fun n : Nat => (n : Int)) = (m.map fun n : Nat => (n : Int)) → l = m
  | [], [], _ => rfl
  | [], _ :: _, h => by cases h
  | _ :: _, [], h => by cases h
  | x :: l, y :: m, h => by
    simp only [List.map_cons, List.cons.injEq] at h
    rw [Int.ofNat.inj h.1, natI_inj h.2]
theorem srt_uniq {l m : List (List Nat)} (p : l.Perm m) (h1 : SrtN l) (h2 : SrtN m) : l = m := by
  have k : ∀ q : List (List Nat), SrtN q → (q.map fun r : List Nat => r.map fun n : Nat => (n : Int)).Pairwise fun u v => Sq.lexI v u = false := fun q hq => List.pairwise_map.mpr hq
  have e := Sq.sorted_uniq (p.map fun r : List Nat => r.map fun n : Nat => (n : Int)) (k l h1) (k m h2)
  clear k
  clear p h1 h2
  induction l generalizing m with
  | nil => cases m with
    | nil => rfl
    | cons _ _ => cases e
  | cons x l ih => cases m with
    | nil => cases e
    | cons y m =>
      simp only [List.map_cons, List.cons.injEq] at e
      rw [natI_inj e.1, ih e.2]
section
variable {K : PySem.W.Frag} {g : TG} {tt : TT} {te : TE}
/-- a comprehension over a list, by a list beside it, whose items are new tuples of naturals -/
theorem lcr_by {α : Type} {vs : List Nat} {σ : L2.St} {H1 : Hp} {D : Addr} {Qd : Hp → Prop} {a : Addr} {xs : List V} (ks : List α) (f : α → List Nat) (hlen : xs.length = ks.length) (hl : SqL K H1 a xs) (hD : H1 D = none) (hz : ks.length ≤ sizeLine)
    (hs : ∀ (i : Nat) v k, xs[i]? = some v → ks[i]? = some k → ∀ H' (Y : V → Hp → Prop) (N : Hp → Prop), Xt H1 H' → (∀ H2 y, Xt H' H2 → RowV H2 (f k) y → Y y H2) →
      g v (wipe σ vs) H' fun σ2 H2 => wipe σ2 vs = wipe σ vs ∧ tt σ2 H2 fun b H3 => if b = true then te σ2 H3 Y else N H3)
    (hd : ∀ H' ys, Xt H1 H' → H' D = some (.lst ys) → RowA H' (ks.map f) ys → Qd H') :
    ∃ W : Nat → Nat → Hp → Prop, (∃ m, W 0 m (upd H1 D (.lst []))) ∧ ∀ i m H, W i m H →
      ((Itl K a).stop i H ∧ Qd H) ∨ ((Itl K a).go i H ∧ ∃ Nx : Hp → Prop, (∀ H', Nx H' → ∃ m', m' < m ∧ W (i + 1) m' H') ∧ ∀ v H', (Itl K a).yld i H v H' → g v (wipe σ vs) H' fun σ2 H2 => wipe σ2 vs = wipe σ vs ∧ tt σ2 H2 fun b H3 =>
        if b = true then te σ2 H3 fun y H4 => ∃ acc, H4 D = some (.lst acc) ∧ acc.length < sizeLine ∧ Nx (upd H4 D (.lst (acc ++ [y]))) else Nx H3) := by
  refine walk_list (xs := xs) (fun i H' => Xt H1 H' ∧ ∃ ys, H' D = some (.lst ys) ∧ RowA H' ((ks.take i).map f) ys) ⟨Xt.new hD, _, upd_same .., .nil⟩ (fun i H' hp => hp.1.sqL hl) (fun i c H' hc hp => ?_) (fun H' hp => ?_)
  · obtain ⟨xt, ys, hp, hk⟩ := hp
    have hi : i < ks.length := by rw [← hlen]; exact (List.getElem?_eq_some_iff.mp hc).1
    have hki := List.getElem?_eq_getElem hi
    refine hs i c _ hc hki H' _ _ xt (fun H2 y x2 e => ⟨_, x2.lst hp, ?_, (xt.trans x2).mut hD, _, upd_same .., ?_⟩)
    · rw [hk.len, List.length_map, List.length_take]
      omega
    · rw [List.take_add_one, hki, List.map_append]
      exact ((hk.xt x2).tk (.lst (x2.lst hp))).app (.cons (e.tk (.lst (x2.lst hp))) .nil)
  · obtain ⟨xt, ys, hp, hk⟩ := hp
    rw [hlen, List.take_length] at hk
    exact hd H' ys xt hp hk
end

/-! ### each once -/
def dd (l : List Nat) : List Nat := l.foldl (fun ks k => if k ∈ ks then ks else ks ++ [k]) []
theorem dd_snoc (l : List Nat) (k : Nat) : dd (l ++ [k]) = if k ∈ dd l then dd l else dd l ++ [k] := by
  unfold dd
  rw [List.foldl_append]
  rfl
theorem snoc_rec {α : Type} {P : List α → Prop} (h0 : P []) (h1 : ∀ l x, P l → P (l ++ [x])) (l : List α) : P l := by
  have h : ∀ n (l : List α), l.length = n → P l := by
    intro n
    induction n with
    | zero => intro l e; rw [List.eq_nil_of_length_eq_zero e]; exact h0
    | succ n ih =>
      intro l e
      rcases List.eq_nil_or_concat l with z | ⟨m, x, z⟩
      · rw [z] at e; cases e
      · rw [List.concat_eq_append] at z
        subst z
        refine h1 m x (ih m ?_)
        simp at e
        exact e
  exact h _ l rfl
theorem mem_dd {x : Nat} (l : List Nat) : x ∈ dd l ↔ x ∈ l := by
  induction l using snoc_rec with
  | h0 => rfl
  | h1 l k ih =>
    rw [dd_snoc]
    by_cases h : k ∈ dd l
    · rw [if_pos h, List.mem_append, ih, List.mem_singleton]
      refine ⟨.inl, fun z => z.elim id fun e => ?_⟩
      subst e
      exact ih.mp h
    · rw [if_neg h, List.mem_append, List.mem_append, ih]
theorem dd_nodup (l : List Nat) : (dd l).Nodup := by
  induction l using snoc_rec with
  | h0 => exact List.nodup_nil
  | h1 l k ih =>
    rw [dd_snoc]
    by_cases h : k ∈ dd l
    · rw [if_pos h]; exact ih
    · rw [if_neg h, List.nodup_append]
      refine ⟨ih, by simp, fun a ha b hb => ?_⟩
      rw [List.mem_singleton.mp hb]
      exact fun e => h (e ▸ ha)
theorem nodup_len : ∀ (n : Nat) (l : List Nat), l.Nodup → (∀ x ∈ l, x < n) → l.length ≤ n
  | 0, [], _, _ => Nat.le_refl _
  | 0, x :: l, _, h => absurd (h x (List.mem_cons_self ..)) (Nat.not_lt_zero _)
  | n + 1, l, hn, h => by
    by_cases hm : n ∈ l
    · have h1 := nodup_len n (l.erase n) (hn.erase n) fun x hx => by
        have h2 := (List.Nodup.mem_erase_iff hn).mp hx
        have h3 := h x h2.2
        have h4 := h2.1
        omega
      rw [List.length_erase_of_mem hm] at h1
      omega
    · have h1 := nodup_len n l hn fun x hx => by
        have h2 := h x hx
        have h3 : x ≠ n := fun e => hm (e ▸ hx)
        omega
      omega
/-- as a table of True -/
def trD (ks : List Nat) : List (Key × V) := ks.map fun k : Nat => (Sum.inl (k : Int), V.bl true)
theorem put_tr (ks : List Nat) (k : Nat) : putK (trD ks) (Sum.inl (k : Int)) (V.bl true) = trD (if k ∈ ks then ks else ks ++ [k]) := by
  have e : ((trD ks).any fun kv => decide (kv.1 = (Sum.inl (k : Int) : Key))) = decide (k ∈ ks) := by
    rw [Bool.eq_iff_iff, List.any_eq_true, decide_eq_true_iff]
    constructor
    · rintro ⟨p, hp, h⟩
      obtain ⟨z, hz, rfl⟩ := List.mem_map.mp hp
      have h2 : (Sum.inl (z : Int) : Key) = Sum.inl (k : Int) := of_decide_eq_true h
      injection h2 with h2
      rwa [← Int.ofNat.inj h2]
    · exact fun h => ⟨_, List.mem_map.mpr ⟨k, h, rfl⟩, decide_eq_true rfl⟩
  unfold putK
  rw [e]
  by_cases h : k ∈ ks
  · rw [if_pos (decide_eq_true h), if_pos h]
    unfold trD
    rw [List.map_map]
    refine List.map_congr_left fun z _ => ?_
    show (if (Sum.inl (z : Int) : Key) = Sum.inl (k : Int) then _ else _) = _
    split <;> rfl
  · rw [if_neg (by simpa using h), if_neg h]
    unfold trD
    rw [List.map_append]
    rfl
/-- places of numbers, from a first place on -/
def plc : Nat → List Nat → List (Key × V)
  | _, [] => []
  | j, n :: l => (Sum.inl (n : Int), V.int (j : Int)) :: plc (j + 1) l
theorem plc_app : ∀ (j : Nat) (l m : List Nat), plc j (l ++ m) = plc j l ++ plc (j + l.length) m
  | j, [], m => rfl
  | j, n :: l, m => by
    show (Sum.inl (n : Int), V.int (j : Int)) :: plc (j + 1) (l ++ m) = (Sum.inl (n : Int), V.int (j : Int)) :: (plc (j + 1) l ++ plc (j + (l.length + 1)) m)
    rw [plc_app (j + 1) l m, show j + 1 + l.length = j + (l.length + 1) by omega]
theorem plc_len : ∀ (j : Nat) (l : List Nat), (plc j l).length = l.length
  | _, [] => rfl
  | j, n :: l => by show _ + 1 = _ + 1; rw [plc_len]
theorem plc_none : ∀ (j : Nat) (l : List Nat) (x : Nat), x ∉ l → valV (plc j l) (Sum.inl (x : Int) : Key) = none
  | _, [], _, _ => rfl
  | j, n :: l, x, h => by
    show valV (_ :: _) _ = _
    rw [valV_neg fun e => h (by injection e with e; rw [← Int.ofNat.inj e]; exact List.mem_cons_self ..)]
    exact plc_none (j + 1) l x fun z => h (List.mem_cons_of_mem _ z)
theorem plc_some : ∀ (j : Nat) (l : List Nat) (x : Nat), x ∈ l → valV (plc j l) (Sum.inl (x : Int) : Key) = some (V.int ((j + l.idxOf x : Nat) : Int))
  | _, [], _, h => by cases h
  | j, n :: l, x, h => by
    show valV (_ :: _) _ = _
    by_cases e : n = x
    · subst e
      rw [valV_pos rfl, List.idxOf_cons_self]
      rfl
    · rw [valV_neg fun z => e (by injection z with z; exact Int.ofNat.inj z), plc_some (j + 1) l x ((List.mem_cons.mp h).resolve_left fun z => e z.symm), show (n :: l).idxOf x = l.idxOf x + 1 by rw [List.idxOf_cons, beq_eq_false_iff_ne.mpr e]; rfl]
      congr 2
      omega
/-- ascending lists with the same members are the same -/
theorem asc_uniq : ∀ {l m : List Nat}, l.Pairwise (· < ·) → m.Pairwise (· < ·) → (∀ x, x ∈ l ↔ x ∈ m) → l = m
  | [], [], _, _, _ => rfl
  | [], y :: m, _, _, h => by cases (h y).mpr (List.mem_cons_self ..)
  | x :: l, [], _, _, h => by cases (h x).mp (List.mem_cons_self ..)
  | x :: l, y :: m, hl, hm, h => by
    obtain ⟨h1, h2⟩ := List.pairwise_cons.mp hl
    obtain ⟨h3, h4⟩ := List.pairwise_cons.mp hm
    have e : x = y := by
      rcases List.mem_cons.mp ((h x).mp (List.mem_cons_self ..)) with e | e
      · exact e
      · rcases List.mem_cons.mp ((h y).mpr (List.mem_cons_self ..)) with f | f
        · exact f.symm
        · have := h3 x e; have := h1 y f; omega
    subst e
    rw [asc_uniq h2 h4 fun z => ?_]
    constructor
    · intro hz
      rcases List.mem_cons.mp ((h z).mp (List.mem_cons_of_mem _ hz)) with e | e
      · have := h1 z hz; omega
      · exact e
    · intro hz
      rcases List.mem_cons.mp ((h z).mpr (List.mem_cons_of_mem _ hz)) with e | e
      · have := h3 z hz; omega
      · exact e
end Wq
set_option Elab.async false
set_option linter.all false
set_option maxRecDepth 100000
set_option maxHeartbeats 4000000
/-! max of a tuple of ints -/
namespace Wq
open PySem PySem.Spec PyProof.Rows L2 Gx
theorem reads_ints {h : Heap} : ∀ {us : List Value} {ns : List Int}, IntsAre us ns → ReadsAll h us (ns.map .int) []
  | _, _, .nil => .nil
  | _, _, .cons n t r => .cons (as := []) (.int n t) (reads_ints r)
theorem alike_ints (ns : List Int) : PySem.W.AlikeAll (ns.map .int) := by
  refine ⟨fun x hx y hy => ?_, fun x hx z => ?_⟩
  · obtain ⟨i, _, rfl⟩ := List.mem_map.mp hx
    obtain ⟨j, _, rfl⟩ := List.mem_map.mp hy
    rfl
  · obtain ⟨i, _, e⟩ := List.mem_map.mp hx
    rw [z] at e
    cases e
theorem depth_ints : ∀ ns : List Int, PyData.depthAll (ns.map .int) = 0
  | [] => rfl
  | _ :: ns => by
    show max 0 (PyData.depthAll (ns.map .int)) = 0
    rw [depth_ints ns]
    rfl
def rMaxT (K : PySem.W.Frag) : List V → Hp → VK → Prop := fun vs H Q => ∃ (a : Addr) (n : Int) (ns : List Int), vs = [V.ref a] ∧ SqT K H a ((n :: ns).map V.int) ∧ Q (.int (ns.foldl max n)) H
theorem cr_maxT {X : Cx} {K : PySem.W.Frag} (hK : X.K = K) (hc : X.calm = true) (hu : X.A.units + 1 < cLine) : CallR X (.builtin "max") (rMaxT K) := by
  subst hK
  rintro ps s σ H vs us Q I r ⟨a, n, ns, rfl, hs, q⟩
  obtain ⟨its, rv, hl, _⟩ := I.tuple hs
  rw [Vals.ref1 r]
  have hi : IntsAre its (n :: ns) := Vals.ints rv
  refine PySem.W.max_tuple_data (I.ok.hd hc) hl (x := .int n) (xs := ns.map .int) (as := []) (by simpa using reads_ints hi) (alike_ints (n :: ns)) (by rw [show (PyData.int n :: ns.map .int) = (n :: ns).map .int from rfl, depth_ints]; omega) fun i v h' tk bs hv hr hk => ?_
  rw [PySem.W.maxD_ints] at hr
  cases hr
  exact ⟨.int _, H, I.kept hk, ⟨_, rfl⟩, q⟩
end Wq
set_option Elab.async false
set_option linter.all false
set_option maxRecDepth 100000
set_option maxHeartbeats 4000000
/-! max of a list of ints with a default -/
namespace Wq
open PySem PySem.Spec PyProof.Rows L2 Gx
/-- the greatest, or z of none -/
def maxDf (ns : List Int) (z : Int) : Int := match ns with
  | [] => z
  | n :: ns => ns.foldl max n
def rMaxD (K : PySem.W.Frag) : List V → List V → Hp → VK → Prop := fun vs zs H Q => ∃ (a : Addr) (z : Int) (ns : List Int), vs = [V.ref a] ∧ zs = [.int z] ∧ SqL K H a (ns.map V.int) ∧ Q (.int (maxDf ns z)) H
theorem cr_maxD {X : Cx} {K : PySem.W.Frag} (hK : X.K = K) (hc : X.calm = true) (hu : X.A.units + 1 < cLine) : CallRK X (.builtin "max") [Str.ofString "default"] (rMaxD K) := by
  subst hK
  intro ps s σ H vs zs us ws Q I r rz h
  obtain ⟨a, z, ns, rfl, rfl, hs, q⟩ := h
  obtain ⟨its, rv, hl, _⟩ := I.list hs
  rw [Vals.ref1 r]
  obtain ⟨w1, rfl, e1⟩ := vals1 rz
  have hi : IntsAre its ns := Vals.ints rv
  refine PySem.W.max_list_default (I.ok.hd hc) hl.isList (xs := ns.map .int) (as := []) (by simpa using reads_ints hi) (alike_ints ns) (by rw [depth_ints]; omega) (fun e h' tk hk => ?_) fun y ys i v h' tk bs e hv hr hk => ?_
  · obtain rfl : ns = [] := List.map_eq_nil_iff.mp e
    exact ⟨.int z, H, I.kept hk, e1, q⟩
  · cases ns with
    | nil => cases e
    | cons n ns =>
      rw [List.map_cons] at e
      injection e with e2 e3
      subst e2 e3
      rw [PySem.W.maxD_ints] at hr
      cases hr
      exact ⟨.int _, H, I.kept hk, ⟨_, rfl⟩, q⟩
end Wq
set_option Elab.async false
set_option linter.all false
set_option maxRecDepth 100000
set_option maxHeartbeats 4000000
/-! rows of naturals as data that is compared; membership of ints -/
namespace Wq
open PySem PySem.Spec PyProof.Rows L2 Gx Lw
def rowD (r : List Nat) : PyData := .tuple (r.map fun n : Nat => .int (n : Int))
theorem int_beq (x y : Nat) : (((x : Nat) : Int) == ((y : Nat) : Int)) = decide (x = y) := by
  by_cases h : x = y
  · subst h; simp
  · rw [decide_eq_false h]
    exact beq_eq_false_iff_ne.mpr fun z => h (Int.ofNat.inj z)
theorem eqv_nats : ∀ a b : List Nat, PyData.eqvAll (a.map fun n : Nat => .int (n : Int)) (b.map fun n : Nat => .int (n : Int)) = decide (a = b)
  | [], [] => rfl
  | [], _ :: _ => rfl
  | _ :: _, [] => rfl
  | x :: a, y :: b => by
    show (((x : Int) == (y : Int)) && PyData.eqvAll (a.map fun n : Nat => .int (n : Int)) (b.map fun n : Nat => .int (n : Int))) = _
    rw [eqv_nats a b, int_beq, Bool.eq_iff_iff]
    simp
theorem eqv_rowD (a b : List Nat) : PyData.eqv (rowD a) (rowD b) = decide (a = b) := eqv_nats a b
theorem dp_nats {K : PySem.W.Frag} {H : Hp} : ∀ l : List Nat, DpAll K H (nI l) (l.map fun n : Nat => .int (n : Int))
  | [] => .nil
  | _ :: l => .cons (.int _) (dp_nats l)
theorem RowV.dp {K : PySem.W.Frag} {H : Hp} {r : List Nat} {v : V} (h : RowV H r v) : Dp K H v (rowD r) := by
  obtain ⟨t, rfl, h⟩ := h
  exact .tup (.inl (.inl h)) (dp_nats r)
theorem RowA.dp {K : PySem.W.Frag} {H : Hp} : ∀ {rs : List (List Nat)} {vs : List V}, RowA H rs vs → DpAll K H vs (rs.map rowD)
  | _, _, .nil => .nil
  | _, _, .cons h1 h2 => .cons h1.dp h2.dp
theorem dep_nats : ∀ l : List Nat, PyData.depthAll (l.map fun n : Nat => PyData.int (n : Int)) = 0
  | [] => rfl
  | _ :: l => by
    show max 0 (PyData.depthAll (l.map fun n : Nat => PyData.int (n : Int))) = 0
    rw [dep_nats l]
    rfl
theorem can_nats : ∀ l : List Nat, PyData.canLayAll0 (l.map fun n : Nat => PyData.int (n : Int)) = true
  | [] => rfl
  | _ :: l => can_nats l
theorem rowD_ok (r : List Nat) : (rowD r).canLay0 = true ∧ (rowD r).depth ≤ 8 := by
  refine ⟨can_nats r, ?_⟩
  show PyData.depthAll (r.map fun n : Nat => PyData.int (n : Int)) + 1 ≤ 8
  rw [dep_nats]
  decide
theorem shp_row (r : List Nat) : SeqAt.shaped (rowD r) = true := by
  obtain ⟨a, b⟩ := rowD_ok r
  show ((rowD r).canLay0 && decide ((rowD r).depth ≤ 64)) = true
  rw [a, decide_eq_true (by omega)]
  rfl
theorem shp_rows (rs : List (List Nat)) : SeqAt.shaped (.list (rs.map rowD)) = true := shp_list fun d hd => by
  obtain ⟨r, _, rfl⟩ := List.mem_map.mp hd
  exact rowD_ok r
theorem eqv_rows (rs : List (List Nat)) : PyData.eqv (.list (rs.map rowD)) (.list (rs.map rowD)) = true := eqvAll_self _ fun d hd => by
  obtain ⟨r, _, rfl⟩ := List.mem_map.mp hd
  rw [eqv_rowD, decide_eq_true rfl]
theorem flat_nI : ∀ l : List Nat, (nI l).all flatV = true
  | [] => rfl
  | _ :: l => flat_nI l
theorem in_nI (n : Nat) : ∀ l : List Nat, inV (.int (n : Int)) (nI l) = decide (n ∈ l)
  | [] => rfl
  | x :: l => by
    have ih := in_nI n l
    unfold inV at ih ⊢
    show (((x : Int) == (n : Int)) || (nI l).any fun y => eqV y (.int (n : Int))) = _
    rw [ih, int_beq, Bool.eq_iff_iff, Bool.or_eq_true, decide_eq_true_iff, decide_eq_true_iff, decide_eq_true_iff, List.mem_cons]
    exact or_congr eq_comm Iff.rfl
end Wq
set_option Elab.async false
set_option linter.all false
set_option maxRecDepth 100000
set_option maxHeartbeats 2000000
namespace Gx
open PySem PySem.Spec PyProof.Rows L2 GenW

/-! ### a generator expression within a generator expression -/
/-- a table whose content is said whole; a code object's head -/
def TabO (P : Addr) (ps : Array Value) : HO := .ext fun h => h.get? P = some { cls := .none, data := .fields ps }
def CodeH (c P : Addr) : HO := .ext fun h => PySem.W.CodeHd h c P ∧ ∃ o, h.get? c = some o
/-- the code object at c with its table at P is known -/
structure TabI (base : Heap) (mg : Str → Option Value) (H : Hp) (c P : Addr) : Prop where
  code : H c = some (CodeH c P)
  bm : base.BuiltinsAt mg P
  gP : mainGlobals ≠ P
  tab : GxR.TabG H P
/-- the table at P: all its code objects are known, with their tables -/
def TabN (base : Heap) (mg : Str → Option Value) (H : Hp) (P : Addr) : Prop := ∃ ps : Array Value, H P = some (TabO P ps) ∧ TriplesOk ps.toList ∧ ∀ (pos : Pos) (cv : Value), codeAmong pos ps.toList = some cv → ∃ c' P', cv = .ref c' ∧ TabI base mg H c' P'
theorem tabO_ok {Pr : Program} {w : World} {H : Hp} {h : Heap} {P : Addr} {ps : Array Value} (e : h.get? P = some { cls := .none, data := .fields ps }) : ObjOk Pr w H h P (TabO P ps) := ⟨e, ⟨_, e⟩, fun h1 h2 p k => k _ p⟩
theorem codeHd_at {h h' : Heap} {c P : Addr} (x : PySem.W.CodeHd h c P) (k : ∀ o, h.get? c = some o → h'.get? c = some o) : PySem.W.CodeHd h' c P :=
  let ⟨o, vs, file, tf, flags, tg, inF, text, tt, e, r⟩ := x; ⟨o, vs, file, tf, flags, tg, inF, text, tt, k _ e, r⟩
theorem codeH_ok {Pr : Program} {w : World} {H : Hp} {h : Heap} {c P : Addr} (x : PySem.W.CodeHd h c P) : ObjOk Pr w H h c (CodeH c P) := by
  have ⟨o, vs, file, tf, flags, tg, inF, text, tt, e, r⟩ := x
  exact ⟨⟨x, ⟨o, e⟩⟩, ⟨o, e⟩, fun h1 h2 p k => ⟨codeHd_at p.1 k, p.2.elim fun o e => ⟨o, k o e⟩⟩⟩
theorem TabI.xt {base : Heap} {mg : Str → Option Value} {H H' : Hp} {c P : Addr} (t : TabI base mg H c P) (x : Xt H H') : TabI base mg H' c P := ⟨x.keep _ _ t.code (fun _ => by unfold CodeH; exact nofun), t.bm, t.gP, x.tabG t.tab⟩
theorem TabN.xt {base : Heap} {mg : Str → Option Value} {H H' : Hp} {P : Addr} (t : TabN base mg H P) (x : Xt H H') : TabN base mg H' P := by
  obtain ⟨ps, h1, h2, h3⟩ := t
  refine ⟨ps, x.keep _ _ h1 (fun _ => by unfold TabO; exact nofun), h2, fun pos cv hc => ?_⟩
  obtain ⟨c', P', e, ti⟩ := h3 pos cv hc
  exact ⟨c', P', e, ti.xt x⟩
/-- all stays but the table at P; tables stay tables -/
structure Xn (P : Addr) (H H' : Hp) : Prop where
  keep : ∀ b o, b ≠ P → H b = some o → (∀ ps, o ≠ .tbl ps) → H' b = some o
  tab : ∀ Q ps, Q ≠ P → H Q = some (.tbl ps) → ∃ ps', H' Q = some (.tbl ps') ∧ (TriplesOk ps.toList → TriplesOk ps'.toList)
theorem Xn.of {P : Addr} {H H' : Hp} (x : Xt H H') : Xn P H H' := ⟨fun b o _ h n => x.keep b o h n, fun Q ps _ h => x.tab Q ps h⟩
theorem Xn.trans {P : Addr} {H H1 H2 : Hp} (a : Xn P H H1) (b : Xn P H1 H2) : Xn P H H2 := ⟨fun c o h e n => b.keep c o h (a.keep c o h e n) n, fun Q ps h e => by
  obtain ⟨p1, e1, f1⟩ := a.tab Q ps h e
  obtain ⟨p2, e2, f2⟩ := b.tab Q p1 h e1
  exact ⟨p2, e2, fun z => f2 (f1 z)⟩⟩
/-- an object with its place is no table -/
theorem Xn.at {P : Addr} {H H' : Hp} (x : Xn P H H') (hP : ∃ ps, H P = some (TabO P ps)) {b : Addr} {o : HO} (h : H b = some o) (n1 : ∀ ps, o ≠ .tbl ps) (n2 : ∀ φ, o ≠ .ext φ) : H' b = some o := by
  refine x.keep b o (fun e => ?_) h n1
  obtain ⟨ps, hp⟩ := hP
  rw [e, hp] at h
  cases h
  exact n2 _ rfl
theorem Xn.tup {P : Addr} {H H' : Hp} (x : Xn P H H') (hP : ∃ ps, H P = some (TabO P ps)) {b : Addr} {xs : List V} (h : H b = some (.tup xs)) : H' b = some (.tup xs) := x.at hP h (fun _ => nofun) fun _ => nofun
theorem Xn.lst {P : Addr} {H H' : Hp} (x : Xn P H H') (hP : ∃ ps, H P = some (TabO P ps)) {b : Addr} {xs : List V} (h : H b = some (.lst xs)) : H' b = some (.lst xs) := x.at hP h (fun _ => nofun) fun _ => nofun
/-- the reading with a table that is known -/
def tGxI (base : Heap) (mg : Str → Option Value) (c P : Addr) (wi : TI) (g : TG) (tt : TT) (te : TE) (own : List Str) (cix : List Nat) (q : Bool) : TE := fun σ H Q => wi σ H fun J H1 => TabI base mg H1 c P ∧ ∀ H2, GxR.Tabbed P H1 H2 →
  ∃ (W : Nat → Nat → Hp → Prop) (m : Nat), W 0 m H2 ∧ gxW J g tt te (gσ own cix σ) q Q W
/-- the reading of the one without: its code object c' is made or found, and known from then on -/
def tGxN (base : Heap) (mg : Str → Option Value) (P : Addr) (wi : TI) (g : TG) (tt : TT) (te : Addr → Addr → TE) (own : List Str) (cix : List Nat) (q : Bool) : TE := fun σ H Q => wi σ H fun J H1 => TabN base mg H1 P ∧ ∀ H2 c' P', Xn P H1 H2 → TabN base mg H2 P → TabI base mg H2 c' P' →
  ∃ (W : Nat → Nat → Hp → Prop) (m : Nat), W 0 m H2 ∧ gxW J g tt (te c' P') (gσ own cix σ) q Q W
section
variable {X : Cx} {pins : List (Addr × Obj)} {σ : L2.St} {H : Hp} {s : Shared}
/-- the table has grown by a code object c' that is known from now on, with its own table at P' -/
theorem inv_tabN {P c' P' : Addr} {ps ps' : Array Value} {h' : Heap} {t' : Nat} (I : Inv X pins σ H s) (hP : H P = some (TabO P ps)) (k : ∀ b o, b ≠ P → s.heap.get? b = some o → h'.get? b = some o)
    (hm : h'.get? P = some { cls := .none, data := .fields ps' }) (hc : s.heap.objs.size ≤ c') (hp : s.heap.objs.size ≤ P') (hne : c' ≠ P') (hcd : PySem.W.CodeHd h' c' P') (hpt : h'.get? P' = some { cls := .none, data := .fields #[] }) :
    Inv X pins σ (upd (upd (upd H P (TabO P ps')) P' (.tbl #[])) c' (CodeH c' P')) { s with heap := h', toks := t' } := by
  have nC : H c' = none := I.hok.fresh hc
  have nQ : H P' = none := I.hok.fresh hp
  have nPc : P ≠ c' := ne_of_none hP nC
  have nPQ : P ≠ P' := ne_of_none hP nQ
  generalize hH2 : upd (upd (upd H P (TabO P ps')) P' (.tbl #[])) c' (CodeH c' P') = H2
  have at_ : ∀ b, b ≠ P → b ≠ P' → b ≠ c' → H2 b = H b := fun b h1 h2 h3 => by rw [← hH2, upd_ne h3, upd_ne h2, upd_ne h1]
  have atP : H2 P = some (TabO P ps') := by rw [← hH2, upd_ne nPc, upd_ne nPQ, upd_same]
  have nP : ∀ b u, H b = some u → (∀ φ, u ≠ .ext φ) → b ≠ P := fun b u e q z => by
    rw [z, hP] at e
    exact q _ (Option.some.inj e).symm
  have nN : ∀ b, H b = none → b ≠ P := fun b e z => by
    rw [z, hP] at e
    cases e
  have young : ∀ b o, s.heap.get? b = some o → b ≠ c' ∧ b ≠ P' := fun b o e => by
    have := Heap.lt_size e
    exact ⟨fun z => absurd (z ▸ this) (Nat.not_lt.mpr hc), fun z => absurd (z ▸ this) (Nat.not_lt.mpr hp)⟩
  have sm : ∀ b u, H b = some u → b ≠ P' ∧ b ≠ c' := fun b u e => ⟨ne_of_none e nQ, ne_of_none e nC⟩
  have same : ∀ b u, H b = some u → (∀ φ, u ≠ .ext φ) → H2 b = some u := fun b u e q => by rw [at_ b (nP b u e q) (sm b u e).1 (sm b u e).2]; exact e
  refine I.step (g' := s.gens) (d' := s.drawn) (ch := []) (fun b hb => absurd hb (by simp)) (fun b o _ _ _ e n => k b o (nN b n) e) (fun b o _ _ _ e n => ⟨o.slots, k b o (nN b n) e⟩)
    (fun b o _ e n => by rw [at_ b (nN b n) (young b o e).2 (young b o e).1]; exact n) (fun b o _ e => ?_) (fun b xs e => same b _ e fun _ => nofun) (fun b o u e => same b _ e fun _ => nofun) (fun b qs e => ⟨#[], by rw [same b _ e fun _ => nofun]; simp⟩) (fun m hn => ?_) (fun b u e => ?_) I.bare
  · by_cases hb : b = P
    · rw [hb]
      exact ⟨_, hm⟩
    · exact ⟨o, k b o hb e⟩
  · obtain ⟨ob, es, ep, ho, r⟩ := hn
    exact ⟨ob, es, ep, k _ ob (nN _ I.free) ho, r⟩
  · by_cases h1 : b = c'
    · rw [← hH2, h1, upd_same] at e
      cases e
      rw [h1]
      exact codeH_ok hcd
    · by_cases h2 : b = P'
      · rw [← hH2, h2, upd_ne hne.symm, upd_same] at e
        cases e
        rw [h2]
        exact hpt
      · by_cases h3 : b = P
        · rw [h3, atP] at e
          cases e
          rw [h3]
          exact tabO_ok hm
        · rw [at_ b h3 h2 h1] at e
          refine (I.hok b u e).stay (fun d v hd q => k d v ?_ q) (fun d q => same d _ q fun _ => nofun) fun d xs q => same d _ q fun _ => nofun
          rcases hd with z | z
          · rw [z]; exact h3
          · exact nP d _ z fun _ => nofun
end
end Gx
set_option Elab.async false
set_option linter.all false
set_option maxRecDepth 100000
set_option maxHeartbeats 2000000
namespace Gx
open PySem PySem.Spec PyProof.Rows L2 GenW
section
variable {X : Cx} {pins : List (Addr × Obj)} {σ : L2.St} {H : Hp} {s : Shared}
theorem gx_makeI {c P : Addr} {elt tg iter : Expr} {ifs : List Expr} {gpos : Pos} {scope : Scope} {own caps : List Str} {cix : List Nat} {wi : TI} {g : TG} {tt : TT} {te : TE} {q : Bool} {k : Nat} {Q : VK} {Q' : Value → Shared → Prop}
    (hr : Room (k + 1) X.A) (hcode : X.env.code = .ref c) (S : GxS X.env.scope X.N scope own caps cix) (hi : PI X tg iter wi)
    (hg : ∀ A s H C cl code bi fp pn, Room k A → PG (gxAt X own caps scope A s H C cl code bi fp pn) tg g) (ht : ∀ A s H C cl code bi fp pn, Room k A → PTs (gxAt X own caps scope A s H C cl code bi fp pn) ifs tt)
    (he : ∀ A s H C cl code bi fp pn, Room k A → PE (gxAt X own caps scope A s H C cl code bi fp pn) elt te)
    (hs : ∀ v, genFold iter X.env v = pure v) (I : Inv X pins σ H s) (h : tGxI X.base X.mg c P wi g tt te own cix q σ H Q)
    (hQ : ∀ (Y : Cx) (a : Addr) (go : Obj) (gi n : Nat) (s5 : Shared) (H5 : Hp), Y.prog = X.prog → Y.w = X.w → Y.pn = [(a, go)] → (∀ h : Heap, h.get? a = some go → h.IsGen a gi) → Inv Y [] (gσ own cix σ) H5 s5 →
      (∀ s6 : Shared, s6.gens = s5.gens → (∀ b o, s5.heap.get? b = some o → s6.heap.get? b = some o) → s6.os = s5.os → ∃ gs : GenState, s6.gens[gi]? = some gs ∧ gs.Goes (model X.prog X.w) X.A.in1.in1 (RGx Y (gσ own cix σ) q Q) (YGx Y (gσ own cix σ) q Q) n (.send .none) (s6.setGen gi .running)) →
      (∀ s' H' v, Inv Y [] (gσ own cix σ) H' s' → Q v H' → ∀ u, RelV v u → EP X pins σ Q u s') → Q' (.ref a) s5) :
    wpAny (model X.prog X.w) X.A (eval (.GeneratorExp elt [⟨tg, iter, ifs, 0⟩] scope gpos) X.env) Q' X.xe s := by
  have hfree : ∀ y ∈ scope.names, y.2 = .free → ∃ c, X.env.cells.lookup y.1 = some c := fun y hy e => by
    rcases S.free y hy e with k | k
    · exact I.ok.has _ (.inl k)
    · exact I.ok.has _ (.inr k)
  refine wpAny_GeneratorExp_make S.co (closure_ok hfree) S.cell S.dot S.kind hr.depth (thn (hi.run pins s σ H _ I h) fun xv s1 hx => thn hx fun itv s2 h2 => ?_) hs
  obtain ⟨it, fp, tn, J, H2, e, I2, T, st2, f2, TB, q2⟩ := h2
  obtain ⟨ps, hP, htr⟩ := TB.tab
  subst e
  have hPs : s2.heap.get? P = some { cls := .none, data := .fields ps } := I2.hok P _ hP
  have hPlt : P < s2.heap.objs.size := Heap.lt_size hPs
  have cd : PySem.W.CodeHd s2.heap c P := (I2.hok c _ TB.code).1.1
  have sz : ∀ b ∈ fp, b < s2.heap.objs.size := fun b hb => by
    obtain ⟨o, e, _⟩ := T.obj _ _ st2 b hb
    exact Heap.lt_size e
  have nfP : ∀ b ∈ fp, b ≠ P := fun b hb e => by
    have := (f2 b hb).1
    rw [e, hP] at this
    cases this
  have cont : ∀ (code : Value) (h3 : Heap) (tk : Nat) (ps' : Array Value), Heap.ExtBut P s2.heap h3 → s2.heap.objs.size ≤ h3.objs.size → h3.get? P = some { cls := .none, data := .fields ps' } → (∃ more, ps' = ps ++ more) → TriplesOk ps'.toList →
      wpAny (model X.prog X.w) X.A (builtinsFor X.env.globals X.env.builtins) (fun bi s₄ =>
        ∀ h', h'.Ns s₄.heap.objs.size (fun y => if y = ".0" then some (.ref it) else none) → Heap.SameBut s₄.heap.objs.size (s₄.heap.push { cls := .type "frame", data := .dict #[] }) h' →
          Q' (.ref h'.objs.size) { s₄ with
            gens := s₄.gens.push (.fresh (.compStart (.GeneratorExp elt [⟨tg, iter, ifs, 0⟩] scope gpos) 0 (.ref it) .none (genEnv scope (cloFrom X.env.cells scope.names []) s₄.heap.objs.size code bi X.env))),
            toks := s₄.toks + 1 + 1 + 1,
            heap := h'.push { cls := .type "generator", data := .fields #[.int s₄.gens.size 0, .str "<genexpr>" (s₄.toks + 1), .str (X.env.qual ++ "<genexpr>") (s₄.toks + 1 + 1)] } }) X.xe { s2 with heap := h3, toks := tk } := by
    intro code h3 tk ps' hx hsz hP3 hmore ht3
    obtain ⟨bm, ob, e1, e2, e3, e4, e5, e6, e7, e8⟩ := TB.bm
    have keep3 : ∀ b u, b ≠ P → s2.heap.get? b = some u → h3.get? b = some u := fun b u hb e => hx b u hb e
    refine wpAny_builtinsFor (m := X.mg) (by rw [I2.ok.glob]; exact (I2.mod.glob.keeps I2.bk).extBut hx TB.gP) e1 e2 (keep3 _ _ e4 (I2.bk _ _ e5)) e6 e7 e8 ?_
    obtain ⟨more, em⟩ := hmore
    have I4 : Inv X pins σ (upd H2 P (.tbl (ps ++ more))) { s2 with heap := h3, toks := tk } :=
      GxR.inv_tab (g' := s2.gens) (d' := s2.drawn) I2 hP keep3 (by rw [← em]; exact hP3) I2.bare
    have tb : GxR.Tabbed P H2 (upd H2 P (.tbl (ps ++ more))) := ⟨⟨ps ++ more, upd_same, by rw [← em]; exact ht3⟩, fun b hb => upd_ne hb⟩
    obtain ⟨W, m, w0, hW⟩ := q2 _ tb
    generalize hH4 : upd H2 P (.tbl (ps ++ more)) = H4 at I4 w0 tb
    generalize hs4 : ({ s2 with heap := h3, toks := tk } : Shared) = s4 at I4 ⊢
    have h4 : s4.heap = h3 := by rw [← hs4]
    have g4 : s4.gens = s2.gens := by rw [← hs4]
    have f4 : ∀ b ∈ fp, FpOk X pins H4 b ∧ b < s4.heap.objs.size := fun b hb => by
      refine ⟨⟨?_, (f2 b hb).2⟩, by rw [h4]; exact Nat.lt_of_lt_of_le (sz b hb) hsz⟩
      rw [tb.2 b (nfP b hb)]
      exact (f2 b hb).1
    have st4 : tn 0 s4.heap := T.keep _ _ _ st2 fun b hb o e => by rw [h4]; exact keep3 b o (nfP b hb) e
    intro h' hn' hs'
    have hsz' : h'.objs.size = s4.heap.objs.size + 1 := by rw [hs'.1, Heap.size_push]
    have keep' : ∀ b o, s4.heap.get? b = some o → h'.get? b = some o := fun b o e => hs'.extBut b o (Nat.ne_of_lt (Heap.lt_size e)) (Heap.get?_push_of_some _ e)
    generalize hgo : ({ cls := .type "generator", data := .fields #[.int s4.gens.size 0, .str "<genexpr>" (s4.toks + 1), .str (X.env.qual ++ "<genexpr>") (s4.toks + 1 + 1)] } : Obj) = go
    have goG : ∀ h : Heap, h.get? h'.objs.size = some go → h.IsGen h'.objs.size s4.gens.size := fun h e => ⟨go, _, _, e, by rw [← hgo], by rw [← hgo], by rw [← hgo]⟩
    have hgetg : (h'.push go).get? h'.objs.size = some go := by
      rw [← hgo]
      exact Heap.get?_push_size _ rfl
    have hgd : ∀ v, go.data ≠ .cell v := fun v q => by rw [← hgo] at q; cases q
    have keep5 : ∀ b o, s4.heap.get? b = some o → (h'.push go).get? b = some o := fun b o e => Heap.get?_push_of_some _ (keep' b o e)
    generalize hc0 : (.compStart (.GeneratorExp elt [⟨tg, iter, ifs, 0⟩] scope gpos) 0 (.ref it) .none (genEnv scope (cloFrom X.env.cells scope.names []) s4.heap.objs.size code builtinsNs X.env) : Code) = c0
    have I5 : Inv (gxCx X (X.A.in1.in1.deeper (genEnv scope (cloFrom X.env.cells scope.names []) s4.heap.objs.size code builtinsNs X.env)) (own ++ caps) s4 H4 (genEnv scope (cloFrom X.env.cells scope.names []) s4.heap.objs.size code builtinsNs X.env) fp [(h'.objs.size, go)]) [] (gσ own cix σ) H4
        { s4 with gens := s4.gens.push (.fresh c0), toks := s4.toks + 1 + 1 + 1, heap := h'.push go } := by
      refine gx_start I4 S f4 hr.hd ?_ keep5 ⟨_, hn'.push _⟩ rfl (AllBare.push I4.bare rfl) (by omega) hgetg hgd
      show X.A.frames.map _ = _
      rw [I4.ok.frames]
      rfl
    have hr' : Room k (X.A.in1.in1.deeper (genEnv scope (cloFrom X.env.cells scope.names []) s4.heap.objs.size code builtinsNs X.env)) :=
      ⟨hr.hd, by have := hr.dp; show X.A.depth + 1 + 3 * k + 5 < _; omega, by have := hr.un; show X.A.units + 1 + 1 + 3 + 16 * k + 200 < _; omega⟩
    have hpn : ∀ p ∈ [(h'.objs.size, go)], p.1 ∉ fp := fun p hp hb => by
      rw [List.mem_singleton.mp hp] at hb
      have h6 := (f4 _ hb).2
      have h7 : (h'.objs.size : Nat) < s4.heap.objs.size := h6
      omega
    refine hQ (gxCx X (X.A.in1.in1.deeper (genEnv scope (cloFrom X.env.cells scope.names []) s4.heap.objs.size code builtinsNs X.env)) (own ++ caps) s4 H4 (genEnv scope (cloFrom X.env.cells scope.names []) s4.heap.objs.size code builtinsNs X.env) fp [(h'.objs.size, go)]) h'.objs.size go s4.gens.size (m + 1) _ H4 rfl rfl rfl goG I5 (fun s6 hg6 hk6 ho6 => ⟨.fresh c0, ?_, rfl, ?_⟩) fun s' H' v I' hv u ru => ?_
    · rw [hg6]
      exact Array.getElem?_push_size ..
    · have J6 := inv_gens (s' := s6.setGen s4.gens.size .running) I5 hk6 ho6 (allBare_setGen (by rw [hg6]; exact I5.bare) rfl)
      rw [← hc0]
      exact seg_gxS (A := X.A.in1.in1) rfl rfl hpn rfl rfl S.co T (hg _ _ _ _ _ _ _ _ _ hr') (ht _ _ _ _ _ _ _ _ _ hr') (he _ _ _ _ _ _ _ _ _ hr') hW (Nat.lt_succ_self m) J6 (T.keep _ _ _ st4 fun b hb o e => hk6 b o (keep5 b o e)) (fun b hb => (f4 b hb).1.1) w0
    · exact ⟨v, H', I4.call' (ch := fp) I'.os I'.base I'.hok I'.bare fun b hb => ⟨(f4 b hb).1.2.2.2.1, (f4 b hb).1.2.1, (f4 b hb).1.2.2.2.2.1, (f4 b hb).1.2.2.2.2.2⟩, ru, hv⟩
  refine ⟨I2.nolimit, ?_⟩
  cases hf : codeAmong gpos ps.toList with
  | none =>
    refine wpAny_genexprCodeX hcode (cd.code hPs htr) (cd.tab hPs) hf fun c' h' tk hx hge hlt hco' _ htab' _ => ?_
    obtain ⟨o1, vs, f1, tf, fl, tg', inF, tx, tt', op, _, _, _, _, _, _, _, _, _, htr', _⟩ := hco'
    exact cont _ h' tk _ hx (Nat.le_trans hge (Nat.le_of_lt hlt)) htab'.2 ⟨_, rfl⟩ htr'
  | some cv =>
    refine wpAny_genexprCode_hit hcode (cd.code hPs htr) hf ?_
    exact cont cv s2.heap s2.toks ps (Heap.ExtBut.refl _ _) (Nat.le_refl _) hPs ⟨#[], by simp⟩ htr

variable {c P : Addr} {elt tg iter : Expr} {ifs : List Expr} {p pos gpos : Pos} {scope : Scope} {own caps : List Str} {cix : List Nat} {wi : TI} {g : TG} {tt : TT} {te : TE} {k : Nat}
theorem pe_anyI (hr : Room (k + 1) X.A) (hgl : Gl X "any") (hm : X.mg "any" = none) (hcode : X.env.code = .ref c) (S : GxS X.env.scope X.N scope own caps cix) (hi : PI X tg iter wi)
    (hg : ∀ A s H C cl code bi fp pn, Room k A → PG (gxAt X own caps scope A s H C cl code bi fp pn) tg g) (ht : ∀ A s H C cl code bi fp pn, Room k A → PTs (gxAt X own caps scope A s H C cl code bi fp pn) ifs tt)
    (he : ∀ A s H C cl code bi fp pn, Room k A → PE (gxAt X own caps scope A s H C cl code bi fp pn) elt te)
    (hs : ∀ v, genFold iter X.env v = pure v := by intro _; rfl)
    (hst : starEach [.GeneratorExp elt [⟨tg, iter, ifs, 0⟩] scope gpos] X.env = (false, eval (.GeneratorExp elt [⟨tg, iter, ifs, 0⟩] scope gpos) X.env) :: starEach [] X.env := by rfl) :
    PE X (.Call (.Name "any" p) [.GeneratorExp elt [⟨tg, iter, ifs, 0⟩] scope gpos] [] pos) (tGxI X.base X.mg c P wi g tt te own cix true) := by
  refine ⟨fun pins s σ H Q I h => ?_⟩
  refine wpAny_Call_Name_kw (ld_blt I hgl hm boot_any ?_)
  refine PyProof.Rows.callWith_builtin1 ?_ hst (by rfl)
  rw [hst]
  show wpAny _ _ (spliced ((false, eval (.GeneratorExp elt [⟨tg, iter, ifs, 0⟩] scope gpos) X.env) :: backTo pos (starEach [] X.env))) _ _ s
  refine Calls.spliced_cons (gx_makeI hr hcode S hi hg ht he hs I h fun Y a go gi n s5 H5 eP ew hp goG I5 hgoes hback => ?_)
  refine Calls.spliced_nil ?_
  have hd := hr.depth
  refine call_function_tree F.kind_any F.plain_any F.entry_any (F.args_any1 _) ?_
  unfold Builtin.«any»
  refine wpAny_bind (m := oneArg "any" _) (wpAny_pure ?_)
  refine wpAny_bind (wpAny_pyIter_gen (s := s5) (pin_gen hp goG I5) ?_)
  refine wpAny_pure ⟨plainId_quiet F.plain_any_loop _, ?_⟩
  rw [← eP, ← ew] at hgoes ⊢
  refine codeAny_mono (any_gx (A := X.A) hp goG hr.hd hd n s5 H5 I5 (hgoes s5 rfl (fun _ _ z => z) rfl)) fun r s' ⟨b, H', er, I', q'⟩ => ?_
  subst er
  exact hback s' H' (.bl b) I' q' _ rfl
theorem pe_allI (hr : Room (k + 1) X.A) (hgl : Gl X "all") (hm : X.mg "all" = none) (hcode : X.env.code = .ref c) (S : GxS X.env.scope X.N scope own caps cix) (hi : PI X tg iter wi)
    (hg : ∀ A s H C cl code bi fp pn, Room k A → PG (gxAt X own caps scope A s H C cl code bi fp pn) tg g) (ht : ∀ A s H C cl code bi fp pn, Room k A → PTs (gxAt X own caps scope A s H C cl code bi fp pn) ifs tt)
    (he : ∀ A s H C cl code bi fp pn, Room k A → PE (gxAt X own caps scope A s H C cl code bi fp pn) elt te)
    (hs : ∀ v, genFold iter X.env v = pure v := by intro _; rfl)
    (hst : starEach [.GeneratorExp elt [⟨tg, iter, ifs, 0⟩] scope gpos] X.env = (false, eval (.GeneratorExp elt [⟨tg, iter, ifs, 0⟩] scope gpos) X.env) :: starEach [] X.env := by rfl) :
    PE X (.Call (.Name "all" p) [.GeneratorExp elt [⟨tg, iter, ifs, 0⟩] scope gpos] [] pos) (tGxI X.base X.mg c P wi g tt te own cix false) := by
  refine ⟨fun pins s σ H Q I h => ?_⟩
  refine wpAny_Call_Name_kw (ld_blt I hgl hm boot_all ?_)
  refine PyProof.Rows.callWith_builtin1 ?_ hst (by rfl)
  rw [hst]
  show wpAny _ _ (spliced ((false, eval (.GeneratorExp elt [⟨tg, iter, ifs, 0⟩] scope gpos) X.env) :: backTo pos (starEach [] X.env))) _ _ s
  refine Calls.spliced_cons (gx_makeI hr hcode S hi hg ht he hs I h fun Y a go gi n s5 H5 eP ew hp goG I5 hgoes hback => ?_)
  refine Calls.spliced_nil ?_
  have hd := hr.depth
  refine call_function_tree F.kind_all F.plain_all F.entry_all (F.args_all1 _) ?_
  unfold Builtin.«all»
  refine wpAny_bind (m := oneArg "all" _) (wpAny_pure ?_)
  refine wpAny_bind (wpAny_pyIter_gen (s := s5) (pin_gen hp goG I5) ?_)
  refine wpAny_pure ⟨plainId_quiet F.plain_all_loop _, ?_⟩
  rw [← eP, ← ew] at hgoes ⊢
  refine codeAny_mono (all_gx (A := X.A) hp goG hr.hd hd n s5 H5 I5 (hgoes s5 rfl (fun _ _ z => z) rfl)) fun r s' ⟨b, H', er, I', q'⟩ => ?_
  subst er
  exact hback s' H' (.bl b) I' q' _ rfl
end
end Gx
set_option Elab.async false
set_option linter.all false
set_option maxRecDepth 100000
set_option maxHeartbeats 2000000
namespace Gx
open PySem PySem.Spec PyProof.Rows L2 GenW
section
variable {X : Cx} {pins : List (Addr × Obj)} {σ : L2.St} {H : Hp} {s : Shared}
theorem gx_makeN {c P : Addr} {elt tg iter : Expr} {ifs : List Expr} {gpos : Pos} {scope : Scope} {own caps : List Str} {cix : List Nat} {wi : TI} {g : TG} {tt : TT} {te : Addr → Addr → TE} {q : Bool} {k : Nat} {Q : VK} {Q' : Value → Shared → Prop}
    (hr : Room (k + 1) X.A) (TB : GxR.TabB X.base X.mg c P) (hcode : X.env.code = .ref c) (S : GxS X.env.scope X.N scope own caps cix) (hi : PI X tg iter wi)
    (hg : ∀ A s H C cl code bi fp pn, Room k A → PG (gxAt X own caps scope A s H C cl code bi fp pn) tg g) (ht : ∀ A s H C cl code bi fp pn, Room k A → PTs (gxAt X own caps scope A s H C cl code bi fp pn) ifs tt)
    (he : ∀ A s H C cl c1 P1 bi fp pn, Room k A → PE (gxAt X own caps scope A s H C cl (.ref c1) bi fp pn) elt (te c1 P1))
    (hs : ∀ v, genFold iter X.env v = pure v) (I : Inv X pins σ H s) (h : tGxN X.base X.mg P wi g tt te own cix q σ H Q)
    (hQ : ∀ (Y : Cx) (a : Addr) (go : Obj) (gi n : Nat) (s5 : Shared) (H5 : Hp), Y.prog = X.prog → Y.w = X.w → Y.pn = [(a, go)] → (∀ h : Heap, h.get? a = some go → h.IsGen a gi) → Inv Y [] (gσ own cix σ) H5 s5 →
      (∀ s6 : Shared, s6.gens = s5.gens → (∀ b o, s5.heap.get? b = some o → s6.heap.get? b = some o) → s6.os = s5.os → ∃ gs : GenState, s6.gens[gi]? = some gs ∧ gs.Goes (model X.prog X.w) X.A.in1.in1 (RGx Y (gσ own cix σ) q Q) (YGx Y (gσ own cix σ) q Q) n (.send .none) (s6.setGen gi .running)) →
      (∀ s' H' v, Inv Y [] (gσ own cix σ) H' s' → Q v H' → ∀ u, RelV v u → EP X pins σ Q u s') → Q' (.ref a) s5) :
    wpAny (model X.prog X.w) X.A (eval (.GeneratorExp elt [⟨tg, iter, ifs, 0⟩] scope gpos) X.env) Q' X.xe s := by
  have hfree : ∀ y ∈ scope.names, y.2 = .free → ∃ c, X.env.cells.lookup y.1 = some c := fun y hy e => by
    rcases S.free y hy e with k | k
    · exact I.ok.has _ (.inl k)
    · exact I.ok.has _ (.inr k)
  refine wpAny_GeneratorExp_make S.co (closure_ok hfree) S.cell S.dot S.kind hr.depth (thn (hi.run pins s σ H _ I h) fun xv s1 hx => thn hx fun itv s2 h2 => ?_) hs
  obtain ⟨it, fp, tn, J, H2, e, I2, T, st2, f2, TN, q2⟩ := h2
  obtain ⟨ps, hP, htr, hall⟩ := id TN
  subst e
  have hPs : s2.heap.get? P = some { cls := .none, data := .fields ps } := (I2.hok P _ hP).1
  have hPlt : P < s2.heap.objs.size := Heap.lt_size hPs
  have cd : PySem.W.CodeHd s2.heap c P := TB.code.keeps I2.bk
  have sz : ∀ b ∈ fp, b < s2.heap.objs.size := fun b hb => by
    obtain ⟨o, e, _⟩ := T.obj _ _ st2 b hb
    exact Heap.lt_size e
  have nfP : ∀ b ∈ fp, b ≠ P := fun b hb e => by
    have := (f2 b hb).1
    rw [e, hP] at this
    cases this
  have cont : ∀ (c1 P1 : Addr) (h3 : Heap) (tk : Nat) (H4 : Hp), Inv X pins σ H4 { s2 with heap := h3, toks := tk } → Xn P H2 H4 → TabN X.base X.mg H4 P → TabI X.base X.mg H4 c1 P1 → (∀ b ∈ fp, H4 b = none) → Heap.ExtBut P s2.heap h3 → s2.heap.objs.size ≤ h3.objs.size →
      wpAny (model X.prog X.w) X.A (builtinsFor X.env.globals X.env.builtins) (fun bi s₄ =>
        ∀ h', h'.Ns s₄.heap.objs.size (fun y => if y = ".0" then some (.ref it) else none) → Heap.SameBut s₄.heap.objs.size (s₄.heap.push { cls := .type "frame", data := .dict #[] }) h' →
          Q' (.ref h'.objs.size) { s₄ with
            gens := s₄.gens.push (.fresh (.compStart (.GeneratorExp elt [⟨tg, iter, ifs, 0⟩] scope gpos) 0 (.ref it) .none (genEnv scope (cloFrom X.env.cells scope.names []) s₄.heap.objs.size (.ref c1) bi X.env))),
            toks := s₄.toks + 1 + 1 + 1,
            heap := h'.push { cls := .type "generator", data := .fields #[.int s₄.gens.size 0, .str "<genexpr>" (s₄.toks + 1), .str (X.env.qual ++ "<genexpr>") (s₄.toks + 1 + 1)] } }) X.xe { s2 with heap := h3, toks := tk } := by
    intro c1 P1 h3 tk H4 I4 xn TN4 TI4 fpn hx hsz
    obtain ⟨bm, ob, e1, e2, e3, e4, e5, e6, e7, e8⟩ := TB.bm
    have keep3 : ∀ b u, b ≠ P → s2.heap.get? b = some u → h3.get? b = some u := fun b u hb e => hx b u hb e
    refine wpAny_builtinsFor (m := X.mg) (by rw [I2.ok.glob]; exact (I2.mod.glob.keeps I2.bk).extBut hx TB.gP) e1 e2 (keep3 _ _ e4 (I2.bk _ _ e5)) e6 e7 e8 ?_
    obtain ⟨W, m, w0, hW⟩ := q2 H4 c1 P1 xn TN4 TI4
    generalize hs4 : ({ s2 with heap := h3, toks := tk } : Shared) = s4 at I4 ⊢
    have h4 : s4.heap = h3 := by rw [← hs4]
    have g4 : s4.gens = s2.gens := by rw [← hs4]
    have f4 : ∀ b ∈ fp, FpOk X pins H4 b ∧ b < s4.heap.objs.size := fun b hb => by
      refine ⟨⟨?_, (f2 b hb).2⟩, by rw [h4]; exact Nat.lt_of_lt_of_le (sz b hb) hsz⟩
      exact fpn b hb
    have st4 : tn 0 s4.heap := T.keep _ _ _ st2 fun b hb o e => by rw [h4]; exact keep3 b o (nfP b hb) e
    intro h' hn' hs'
    have hsz' : h'.objs.size = s4.heap.objs.size + 1 := by rw [hs'.1, Heap.size_push]
    have keep' : ∀ b o, s4.heap.get? b = some o → h'.get? b = some o := fun b o e => hs'.extBut b o (Nat.ne_of_lt (Heap.lt_size e)) (Heap.get?_push_of_some _ e)
    generalize hgo : ({ cls := .type "generator", data := .fields #[.int s4.gens.size 0, .str "<genexpr>" (s4.toks + 1), .str (X.env.qual ++ "<genexpr>") (s4.toks + 1 + 1)] } : Obj) = go
    have goG : ∀ h : Heap, h.get? h'.objs.size = some go → h.IsGen h'.objs.size s4.gens.size := fun h e => ⟨go, _, _, e, by rw [← hgo], by rw [← hgo], by rw [← hgo]⟩
    have hgetg : (h'.push go).get? h'.objs.size = some go := by
      rw [← hgo]
      exact Heap.get?_push_size _ rfl
    have hgd : ∀ v, go.data ≠ .cell v := fun v q => by rw [← hgo] at q; cases q
    have keep5 : ∀ b o, s4.heap.get? b = some o → (h'.push go).get? b = some o := fun b o e => Heap.get?_push_of_some _ (keep' b o e)
    generalize hc0 : (.compStart (.GeneratorExp elt [⟨tg, iter, ifs, 0⟩] scope gpos) 0 (.ref it) .none (genEnv scope (cloFrom X.env.cells scope.names []) s4.heap.objs.size (.ref c1) builtinsNs X.env) : Code) = c0
    have I5 : Inv (gxCx X (X.A.in1.in1.deeper (genEnv scope (cloFrom X.env.cells scope.names []) s4.heap.objs.size (.ref c1) builtinsNs X.env)) (own ++ caps) s4 H4 (genEnv scope (cloFrom X.env.cells scope.names []) s4.heap.objs.size (.ref c1) builtinsNs X.env) fp [(h'.objs.size, go)]) [] (gσ own cix σ) H4
        { s4 with gens := s4.gens.push (.fresh c0), toks := s4.toks + 1 + 1 + 1, heap := h'.push go } := by
      refine gx_start I4 S f4 hr.hd ?_ keep5 ⟨_, hn'.push _⟩ rfl (AllBare.push I4.bare rfl) (by omega) hgetg hgd
      show X.A.frames.map _ = _
      rw [I4.ok.frames]
      rfl
    have hr' : Room k (X.A.in1.in1.deeper (genEnv scope (cloFrom X.env.cells scope.names []) s4.heap.objs.size (.ref c1) builtinsNs X.env)) :=
      ⟨hr.hd, by have := hr.dp; show X.A.depth + 1 + 3 * k + 5 < _; omega, by have := hr.un; show X.A.units + 1 + 1 + 3 + 16 * k + 200 < _; omega⟩
    have hpn : ∀ p ∈ [(h'.objs.size, go)], p.1 ∉ fp := fun p hp hb => by
      rw [List.mem_singleton.mp hp] at hb
      have h6 := (f4 _ hb).2
      have h7 : (h'.objs.size : Nat) < s4.heap.objs.size := h6
      omega
    refine hQ (gxCx X (X.A.in1.in1.deeper (genEnv scope (cloFrom X.env.cells scope.names []) s4.heap.objs.size (.ref c1) builtinsNs X.env)) (own ++ caps) s4 H4 (genEnv scope (cloFrom X.env.cells scope.names []) s4.heap.objs.size (.ref c1) builtinsNs X.env) fp [(h'.objs.size, go)]) h'.objs.size go s4.gens.size (m + 1) _ H4 rfl rfl rfl goG I5 (fun s6 hg6 hk6 ho6 => ⟨.fresh c0, ?_, rfl, ?_⟩) fun s' H' v I' hv u ru => ?_
    · rw [hg6]
      exact Array.getElem?_push_size ..
    · have J6 := inv_gens (s' := s6.setGen s4.gens.size .running) I5 hk6 ho6 (allBare_setGen (by rw [hg6]; exact I5.bare) rfl)
      rw [← hc0]
      exact seg_gxS (A := X.A.in1.in1) rfl rfl hpn rfl rfl S.co T (hg _ _ _ _ _ _ _ _ _ hr') (ht _ _ _ _ _ _ _ _ _ hr') (he _ _ _ _ _ c1 P1 _ _ _ hr') hW (Nat.lt_succ_self m) J6 (T.keep _ _ _ st4 fun b hb o e => hk6 b o (keep5 b o e)) (fun b hb => (f4 b hb).1.1) w0
    · exact ⟨v, H', I4.call' (ch := fp) I'.os I'.base I'.hok I'.bare fun b hb => ⟨(f4 b hb).1.2.2.2.1, (f4 b hb).1.2.1, (f4 b hb).1.2.2.2.2.1, (f4 b hb).1.2.2.2.2.2⟩, ru, hv⟩
  refine ⟨I2.nolimit, ?_⟩
  cases hf : codeAmong gpos ps.toList with
  | none =>
    refine wpAny_genexprCodeX hcode (cd.code hPs htr) (cd.tab hPs) hf fun c' h' tk hx hge hlt hco' _ htab' hnew => ?_
    obtain ⟨P', hP', hcN, htN⟩ := hnew
    obtain ⟨o1, vs, f1, tf, fl, tg', inF, tx, tt', op, _, _, _, _, _, _, _, _, _, htr', _⟩ := hco'
    have hcd := PySem.W.CodeHd.of hcN htN
    obtain ⟨_, _, _, _, _, _, _, _, _, _, _, _, _, _, _, _, _, _, _, _, hne⟩ := hcN
    have keep3 : ∀ b u, b ≠ P → s2.heap.get? b = some u → h'.get? b = some u := fun b u hb e => hx b u hb e
    have I4 := inv_tabN (t' := tk) I2 hP keep3 htab'.2 hge hP' hne hcd htN.2
    have nC : H2 c' = none := I2.hok.fresh hge
    have nQ : H2 P' = none := I2.hok.fresh hP'
    have nPc : P ≠ c' := ne_of_none hP nC
    have nPQ : P ≠ P' := ne_of_none hP nQ
    have eL : (ps ++ #[rawInt gpos.line, rawInt gpos.col, .ref c']).toList = ps.toList ++ [rawInt gpos.line, rawInt gpos.col, .ref c'] := by simp
    generalize hH4 : upd (upd (upd H2 P (TabO P (ps ++ #[rawInt gpos.line, rawInt gpos.col, .ref c']))) P' (.tbl #[])) c' (CodeH c' P') = H4 at I4
    have at_ : ∀ b u, b ≠ P → H2 b = some u → H4 b = some u := fun b u h1 e => by rw [← hH4, upd_ne (ne_of_none e nC), upd_ne (ne_of_none e nQ), upd_ne h1]; exact e
    have atP : H4 P = some (TabO P (ps ++ #[rawInt gpos.line, rawInt gpos.col, .ref c'])) := by rw [← hH4, upd_ne nPc, upd_ne nPQ, upd_same]
    have xn : Xn P H2 H4 := ⟨fun b o h1 e _ => at_ b o h1 e, fun Q qs h1 e => ⟨qs, at_ Q _ h1 e, id⟩⟩
    have tabU : ∀ {c0 P0 : Addr}, TabI X.base X.mg H2 c0 P0 → TabI X.base X.mg H4 c0 P0 := fun {c0 P0} t => by
      have n0 : c0 ≠ P := fun z => by
        have e1 := (I2.hok c0 _ t.code).1.1
        obtain ⟨o, us, _, _, _, _, _, _, _, g1, g2, _⟩ := e1
        rw [z, hPs] at g1
        cases g1
        cases g2
      have n1 : P0 ≠ P := fun z => by
        obtain ⟨qs, g1, _⟩ := t.tab
        rw [z, hP] at g1
        cases g1
      obtain ⟨qs, g1, g2⟩ := t.tab
      exact ⟨at_ _ _ n0 t.code, t.bm, t.gP, qs, at_ _ _ n1 g1, g2⟩
    have TI4 : TabI X.base X.mg H4 c' P' := by
      obtain ⟨bm, ob, e1, e2, e3, e4, e5, e6, e7, e8⟩ := TB.bm
      refine ⟨by rw [← hH4, upd_same], ⟨bm, ob, e1, e2, e3, fun z => ?_, e5, e6, e7, e8⟩, fun z => ?_, #[], by rw [← hH4, upd_ne hne.symm, upd_same], trivial⟩
      · have := Heap.lt_size (I2.bk _ _ e5)
        rw [z] at this
        exact absurd this (Nat.not_lt.mpr hP')
      · obtain ⟨og, es, ep, eg, _⟩ := I2.mod.glob
        have := Heap.lt_size (I2.bk _ _ eg)
        rw [z] at this
        exact absurd this (Nat.not_lt.mpr hP')
    refine cont c' P' h' tk H4 I4 xn ⟨_, atP, htr', fun pos cv hcv => ?_⟩ TI4 (fun b hb => ?_) hx (Nat.le_trans hge (Nat.le_of_lt hlt))
    · rw [eL] at hcv
      rcases LamX.among_app _ htr hcv with z | z
      · obtain ⟨c0, P0, e0, t0⟩ := hall pos cv z
        exact ⟨c0, P0, e0, tabU t0⟩
      · exact ⟨c', P', z, TI4⟩
    · have h1 := sz b hb
      rw [← hH4, upd_ne (fun z => by rw [z] at h1; exact absurd h1 (Nat.not_lt.mpr hge)), upd_ne (fun z => by rw [z] at h1; exact absurd h1 (Nat.not_lt.mpr hP')), upd_ne (nfP b hb)]
      exact (f2 b hb).1
  | some cv =>
    obtain ⟨c0, P0, e0, t0⟩ := hall gpos cv hf
    subst e0
    refine wpAny_genexprCode_hit hcode (cd.code hPs htr) hf ?_
    exact cont c0 P0 s2.heap s2.toks H2 I2 ⟨fun b o _ e _ => e, fun Q qs _ e => ⟨qs, e, id⟩⟩ TN t0 (fun b hb => (f2 b hb).1) (Heap.ExtBut.refl _ _) (Nat.le_refl _)
variable {c P : Addr} {elt tg iter : Expr} {ifs : List Expr} {p pos gpos : Pos} {scope : Scope} {own caps : List Str} {cix : List Nat} {wi : TI} {g : TG} {tt : TT} {te : Addr → Addr → TE} {k : Nat}
theorem pe_allN (hr : Room (k + 1) X.A) (hgl : Gl X "all") (hm : X.mg "all" = none) (TB : GxR.TabB X.base X.mg c P) (hcode : X.env.code = .ref c) (S : GxS X.env.scope X.N scope own caps cix) (hi : PI X tg iter wi)
    (hg : ∀ A s H C cl code bi fp pn, Room k A → PG (gxAt X own caps scope A s H C cl code bi fp pn) tg g) (ht : ∀ A s H C cl code bi fp pn, Room k A → PTs (gxAt X own caps scope A s H C cl code bi fp pn) ifs tt)
    (he : ∀ A s H C cl c1 P1 bi fp pn, Room k A → PE (gxAt X own caps scope A s H C cl (.ref c1) bi fp pn) elt (te c1 P1))
    (hs : ∀ v, genFold iter X.env v = pure v := by intro _; rfl)
    (hst : starEach [.GeneratorExp elt [⟨tg, iter, ifs, 0⟩] scope gpos] X.env = (false, eval (.GeneratorExp elt [⟨tg, iter, ifs, 0⟩] scope gpos) X.env) :: starEach [] X.env := by rfl) :
    PE X (.Call (.Name "all" p) [.GeneratorExp elt [⟨tg, iter, ifs, 0⟩] scope gpos] [] pos) (tGxN X.base X.mg P wi g tt te own cix false) := by
  refine ⟨fun pins s σ H Q I h => ?_⟩
  refine wpAny_Call_Name_kw (ld_blt I hgl hm boot_all ?_)
  refine PyProof.Rows.callWith_builtin1 ?_ hst (by rfl)
  rw [hst]
  show wpAny _ _ (spliced ((false, eval (.GeneratorExp elt [⟨tg, iter, ifs, 0⟩] scope gpos) X.env) :: backTo pos (starEach [] X.env))) _ _ s
  refine Calls.spliced_cons (gx_makeN hr TB hcode S hi hg ht he hs I h fun Y a go gi n s5 H5 eP ew hp goG I5 hgoes hback => ?_)
  refine Calls.spliced_nil ?_
  have hd := hr.depth
  refine call_function_tree F.kind_all F.plain_all F.entry_all (F.args_all1 _) ?_
  unfold Builtin.«all»
  refine wpAny_bind (m := oneArg "all" _) (wpAny_pure ?_)
  refine wpAny_bind (wpAny_pyIter_gen (s := s5) (pin_gen hp goG I5) ?_)
  refine wpAny_pure ⟨plainId_quiet F.plain_all_loop _, ?_⟩
  rw [← eP, ← ew] at hgoes ⊢
  refine codeAny_mono (all_gx (A := X.A) hp goG hr.hd hd n s5 H5 I5 (hgoes s5 rfl (fun _ _ z => z) rfl)) fun r s' ⟨b, H', er, I', q'⟩ => ?_
  subst er
  exact hback s' H' (.bl b) I' q' _ rfl
end
section
variable {X : Cx}
variable {c P : Addr} {elt tg iter : Expr} {ifs : List Expr} {p pos gpos : Pos} {scope : Scope} {own caps : List Str} {cix : List Nat} {wi : TI} {g : TG} {tt : TT} {te : TE} {k : Nat}
theorem pe_anyJ {base : Heap} {mg : Str → Option Value} (hbase : X.base = base) (hmg : X.mg = mg) (hr : Room (k + 1) X.A) (hgl : Gl X "any") (hm : X.mg "any" = none) (hcode : X.env.code = .ref c) (S : GxS X.env.scope X.N scope own caps cix) (hi : PI X tg iter wi)
    (hg : ∀ A s H C cl code bi fp pn, Room k A → PG (gxAt X own caps scope A s H C cl code bi fp pn) tg g) (ht : ∀ A s H C cl code bi fp pn, Room k A → PTs (gxAt X own caps scope A s H C cl code bi fp pn) ifs tt)
    (he : ∀ A s H C cl code bi fp pn, Room k A → PE (gxAt X own caps scope A s H C cl code bi fp pn) elt te)
    (hs : ∀ v, genFold iter X.env v = pure v := by intro _; rfl)
    (hst : starEach [.GeneratorExp elt [⟨tg, iter, ifs, 0⟩] scope gpos] X.env = (false, eval (.GeneratorExp elt [⟨tg, iter, ifs, 0⟩] scope gpos) X.env) :: starEach [] X.env := by rfl) :
    PE X (.Call (.Name "any" p) [.GeneratorExp elt [⟨tg, iter, ifs, 0⟩] scope gpos] [] pos) (tGxI base mg c P wi g tt te own cix true) := by
  subst hbase hmg
  exact pe_anyI hr hgl hm hcode S hi hg ht he hs hst
theorem pe_allJ {base : Heap} {mg : Str → Option Value} (hbase : X.base = base) (hmg : X.mg = mg) (hr : Room (k + 1) X.A) (hgl : Gl X "all") (hm : X.mg "all" = none) (hcode : X.env.code = .ref c) (S : GxS X.env.scope X.N scope own caps cix) (hi : PI X tg iter wi)
    (hg : ∀ A s H C cl code bi fp pn, Room k A → PG (gxAt X own caps scope A s H C cl code bi fp pn) tg g) (ht : ∀ A s H C cl code bi fp pn, Room k A → PTs (gxAt X own caps scope A s H C cl code bi fp pn) ifs tt)
    (he : ∀ A s H C cl code bi fp pn, Room k A → PE (gxAt X own caps scope A s H C cl code bi fp pn) elt te)
    (hs : ∀ v, genFold iter X.env v = pure v := by intro _; rfl)
    (hst : starEach [.GeneratorExp elt [⟨tg, iter, ifs, 0⟩] scope gpos] X.env = (false, eval (.GeneratorExp elt [⟨tg, iter, ifs, 0⟩] scope gpos) X.env) :: starEach [] X.env := by rfl) :
    PE X (.Call (.Name "all" p) [.GeneratorExp elt [⟨tg, iter, ifs, 0⟩] scope gpos] [] pos) (tGxI base mg c P wi g tt te own cix false) := by
  subst hbase hmg
  exact pe_allI hr hgl hm hcode S hi hg ht he hs hst
end
/-! ### the start: a promise over a table that is said whole, from one over a table that only grows -/
theorem hok_tab {Pr : Program} {w : World} {H : Hp} {h : Heap} {P : Addr} {o u : HO} (hH : HOk Pr w H h) (hP : H P = some u) (n1 : ∀ b, u ≠ .own b) (n2 : ∀ xs, u ≠ .tup xs) (ho : ObjOk Pr w (upd H P o) h P o) : HOk Pr w (upd H P o) h := fun b x e => by
  by_cases hb : b = P
  · subst hb
    rw [upd_same] at e
    cases e
    exact ho
  · rw [upd_ne hb] at e
    refine (hH b x e).stay (fun _ _ _ q => q) (fun d q => ?_) fun d xs q => ?_
    · rw [upd_ne fun z => ?_]
      · exact q
      · rw [z, hP] at q
        exact n1 _ (Option.some.inj q)
    · rw [upd_ne fun z => ?_]
      · exact q
      · rw [z, hP] at q
        exact n2 _ (Option.some.inj q)
theorem fnOk_tabO {Pr : Program} {w : World} {K : PySem.W.Frag} {mg : Str → Option Value} {base : Heap} {k : Nat} {f : Addr} {fd : FuncData} {ps : List Str} {sp : Sp} (P : Addr) (F : FnOk Pr w K mg base CX0 k f fd ps sp) :
    FnOk Pr w K mg base CX0 k f fd ps (fun vs H Q E => H P = some (.tbl #[]) ∧ (∀ v H1 H2, Q v H1 → Q v H2) ∧ sp vs (upd H P (TabO P #[])) (fun v H' => Q v H' ∧ ∃ qs, H' P = some (TabO P qs)) E) := by
  refine ⟨fun vs H Q E h => F.len _ _ _ _ h.2.2, fun A outer s H args us vs Q E hr e0 hb hv h => ?_⟩
  obtain ⟨hP, hQ, hs⟩ := h
  have nn : ∀ b, H b = none → upd H P (TabO P #[]) b = none := fun b e => by rw [upd_ne fun z => ?_]; exact e; rw [z, hP] at e; cases e
  have hok := hok_tab (o := TabO P #[]) e0.hok hP (fun _ => nofun) (fun _ => nofun) (tabO_ok (e0.hok P _ hP))
  have e1 : Env0 Pr w K mg base A outer s (upd H P (TabO P #[])) := ⟨e0.frames, e0.mod, fun b o e => ⟨(e0.bs b o e).1, nn b (e0.bs b o e).2⟩, e0.bsz, e0.funs, fun b z => nn b (e0.frf b z), hok, e0.bare⟩
  refine codeAny_mono (F.run A outer s _ args us vs _ E hr e1 hb hv hs) fun r s' hc => ?_
  cases r with
  | error e => exact (show False from hc).elim
  | ok fl =>
    cases fl with
    | next => exact False.elim hc
    | brk => exact False.elim hc
    | cont => exact False.elim hc
    | ret u =>
      obtain ⟨v, H', o1, bare, un, hok', rv, q1, qs, hP'⟩ := hc
      refine ⟨v, upd H' P (.tbl qs), o1, bare, ⟨fun b o e n => un.keep b o e (nn b n), fun b o e n => un.slot b o e (nn b n), fun b o e n hx => ?_, un.there, fun b xs e => ?_, fun b o u e => ?_, fun b xs e => ?_⟩, hok_tab hok' hP' (fun _ => by unfold TabO; exact nofun) (fun _ => by unfold TabO; exact nofun) (hok' P _ hP').1, rv, hQ _ _ _ q1⟩
      · have z : b ≠ P := fun z => by rw [z, hP] at n; cases n
        rw [upd_ne z]
        exact un.free b o e (nn b n) hx
      · have z : b ≠ P := fun z => by rw [z, hP] at e; cases e
        rw [upd_ne z]
        exact un.tups b xs (by rw [upd_ne z]; exact e)
      · have z : b ≠ P := fun z => by rw [z, hP] at e; cases e
        rw [upd_ne z]
        exact un.frzs b o u (by rw [upd_ne z]; exact e)
      · by_cases z : b = P
        · subst z
          rw [hP] at e
          cases e
          exact ⟨qs, by rw [upd_same]; simp⟩
        · rw [upd_ne z]
          exact un.tbls b xs (by rw [upd_ne z]; exact e)
end Gx
set_option Elab.async false
set_option linter.all false
set_option maxRecDepth 100000
set_option maxHeartbeats 2000000
/-! a lambda of one parameter, handed to a def behind two other arguments; it raises nothing -/
namespace Gx
open PySem PySem.Spec PyProof.Rows L2
/-- the table at P is said whole, and each code object that it tells bears the name q -/
def TabL (H : Hp) (P : Addr) (q : Str) : Prop := ∃ ps : Array Value, H P = some (TabO P ps) ∧ TriplesOk ps.toList ∧ ∀ (pos : Pos) (cv : Value), codeAmong pos ps.toList = some cv → ∃ c, cv = .ref c ∧ H c = some (LamX.CodeO c q)
theorem codeO_tbl {c : Addr} {q : Str} (ps : Array Value) : LamX.CodeO c q ≠ .tbl ps := LamX.codeO_ne ps
theorem TabL.xt {H H' : Hp} {P : Addr} {q : Str} (t : TabL H P q) (x : Xt H H') : TabL H' P q := by
  obtain ⟨ps, t1, t2, t3⟩ := t
  refine ⟨ps, x.keep _ _ t1 (fun _ => by unfold TabO; exact nofun), t2, fun pos cv e => ?_⟩
  obtain ⟨c, e1, e2⟩ := t3 pos cv e
  exact ⟨c, e1, x.keep _ _ e2 codeO_tbl⟩
theorem tabL_xd {H H' : Hp} {P d : Addr} {q : Str} (t : TabL H P q) (hd : Dr H d) (x : Xd d H H') : TabL H' P q := by
  obtain ⟨ps, t1, t2, t3⟩ := t
  obtain ⟨ns, hdl⟩ := hd
  have off : ∀ {b φ}, H b = some (.ext φ) → b ≠ d := fun {b φ} e z => by
    rw [z, hdl] at e
    cases e
  refine ⟨ps, x.keep _ _ (off t1) t1 (fun _ => by unfold TabO; exact nofun), t2, fun pos cv e => ?_⟩
  obtain ⟨c, e1, e2⟩ := t3 pos cv e
  exact ⟨c, e1, x.keep _ _ (off e2) e2 codeO_tbl⟩
section
variable {X : Cx} {pins : List (Addr × Obj)} {σ : L2.St} {H : Hp} {s : Shared}
theorem inv_tabL {P c' : Addr} {q : Str} {ps ps' : Array Value} {h' : Heap} {t' : Nat} (I : Inv X pins σ H s) (hP : H P = some (TabO P ps)) (k : ∀ b o, b ≠ P → s.heap.get? b = some o → h'.get? b = some o)
    (hm : h'.get? P = some { cls := .none, data := .fields ps' }) (hc : s.heap.objs.size ≤ c') (ho : ∃ (oc : Obj) (vs : Array Value) (t : Tok), h'.get? c' = some oc ∧ oc.data = .fields vs ∧ vs[1]? = some (.str q t)) :
    Inv X pins σ (upd (upd H P (TabO P ps')) c' (LamX.CodeO c' q)) { s with heap := h', toks := t' } := by
  have nC : H c' = none := I.hok.fresh hc
  have nPc : P ≠ c' := ne_of_none hP nC
  generalize hH2 : upd (upd H P (TabO P ps')) c' (LamX.CodeO c' q) = H2
  have at_ : ∀ b, b ≠ P → b ≠ c' → H2 b = H b := fun b h1 h3 => by rw [← hH2, upd_ne h3, upd_ne h1]
  have atP : H2 P = some (TabO P ps') := by rw [← hH2, upd_ne nPc, upd_same]
  have nP : ∀ b u, H b = some u → (∀ φ, u ≠ .ext φ) → b ≠ P := fun b u e z0 z => by
    rw [z, hP] at e
    exact z0 _ (Option.some.inj e).symm
  have nN : ∀ b, H b = none → b ≠ P := fun b e z => by
    rw [z, hP] at e
    cases e
  have same : ∀ b u, H b = some u → (∀ φ, u ≠ .ext φ) → H2 b = some u := fun b u e z0 => by rw [at_ b (nP b u e z0) (ne_of_none e nC)]; exact e
  refine I.step (g' := s.gens) (d' := s.drawn) (ch := []) (fun b hb => absurd hb (by simp)) (fun b o _ _ _ e n => k b o (nN b n) e) (fun b o _ _ _ e n => ⟨o.slots, k b o (nN b n) e⟩)
    (fun b o _ e n => ?_) (fun b o _ e => ?_) (fun b xs e => same b _ e fun _ => nofun) (fun b o u e => same b _ e fun _ => nofun) (fun b qs e => ⟨#[], by rw [same b _ e fun _ => nofun]; simp⟩) (fun m hn => ?_) (fun b u e => ?_) I.bare
  · have hlt := Heap.lt_size e
    rw [at_ b (nN b n) fun z => absurd (z ▸ hlt) (Nat.not_lt.mpr hc)]
    exact n
  · by_cases hb : b = P
    · rw [hb]
      exact ⟨_, hm⟩
    · exact ⟨o, k b o hb e⟩
  · obtain ⟨ob, es, ep, ho2, r⟩ := hn
    exact ⟨ob, es, ep, k _ ob (nN _ I.free) ho2, r⟩
  · by_cases h1 : b = c'
    · rw [← hH2, h1, upd_same] at e
      cases e
      rw [h1]
      obtain ⟨oc, vs, t, a1, a2, a3⟩ := ho
      exact ⟨⟨oc, vs, t, a1, a2, a3⟩, ⟨oc, a1⟩, fun g1 g2 ⟨oc, vs, t, b1, b2, b3⟩ st => ⟨oc, vs, t, st _ b1, b2, b3⟩⟩
    · by_cases h3 : b = P
      · rw [h3, atP] at e
        cases e
        rw [h3]
        exact tabO_ok hm
      · rw [at_ b h3 h1] at e
        refine (I.hok b u e).stay (fun d v hd z0 => k d v ?_ z0) (fun d z0 => same d _ z0 fun _ => nofun) fun d xs z0 => same d _ z0 fun _ => nofun
        rcases hd with z | z
        · rw [z]; exact h3
        · exact nP d _ z fun _ => nofun
/-- a lambda's function object is made; its code object is new or was found -/
theorem lam_makeL {c P : Addr} {params : Arguments} {body : Expr} {scope : Scope} {pos : Pos} {E : Value → Shared → Prop} {Q : Value → Shared → Prop} (I : Inv X pins σ H s) (TB : GxR.TabB X.base X.mg c P) (hcode : X.env.code = .ref c)
    (hT : TabL H P (X.env.qual ++ "<lambda>")) (hdef : defaultsOf params X.env = ([], [])) (hfree : ∀ y ∈ scope.names, y.2 = .free → ∃ c, X.env.cells.lookup y.1 = some c)
    (h : ∀ (f c' : Addr) (pm ctv : Value) (H1 : Hp) (s' : Shared), Inv X pins σ H1 s' → Xn P H H1 → TabL H1 P (X.env.qual ++ "<lambda>") → s'.heap.get? f = some (PySem.W.kla_obj "<lambda>" (X.env.qual ++ "<lambda>") params body scope (cloFrom X.env.cells scope.names []) pm c' ctv) →
      H1 f = none → f ∉ frs X.stack → H1 c' = some (LamX.CodeO c' (X.env.qual ++ "<lambda>")) → Q (.ref f) s') : wpAny (model X.prog X.w) X.A (eval (.Lambda params body scope pos) X.env) Q E s := by
  obtain ⟨ps, hP, htr, hall⟩ := id hT
  refine PySem.W.kla_eval hdef ?_
  have hBu : s.heap.BuiltinsAt X.mg P := TB.bm.keeps I.bk
  have hPs : s.heap.get? P = some { cls := .none, data := .fields ps } := (I.hok P _ hP).1
  have young : ∀ f, s.heap.objs.size ≤ f → f ∉ frs X.stack := fun f hf z => by
    rcases List.mem_cons.mp (I.stkSub f z) with e | e
    · have := I.lt
      rw [← e] at this
      exact absurd this (Nat.not_lt.mpr hf)
    · exact I.nofs hf e
  cases hf : codeAmong pos ps.toList with
  | some cv =>
    obtain ⟨c', rfl, hco⟩ := hall pos cv hf
    refine PySem.W.kla_makeFunctionHit (mg := X.mg) (c := c) (P := P) (ps := ps) (closure_ok hfree) I.ok.glob (I.mod.glob.keeps I.bk) hcode (TB.code.keeps I.bk) hPs htr hf hBu fun ctv h' tk hx hsz => ?_
    exact h h'.objs.size c' ((X.mg "__name__").getD .none) ctv H _ (I.kept fun b o e => Heap.get?_push_of_some _ (hx b o e)) ⟨fun b o _ e _ => e, fun R qs _ e => ⟨qs, e, id⟩⟩ hT (Heap.get?_push_size _ rfl) (I.hok.fresh hsz) (young _ hsz) hco
  | none =>
    refine PySem.W.kla_makeFunction (mg := X.mg) (c := c) (P := P) (ps := ps) (closure_ok hfree) I.ok.glob (I.mod.glob.keeps I.bk) hcode (TB.code.keeps I.bk) hPs htr hf TB.gP hBu fun c' ctv h' tk hx hge hlt hrec htb => ?_
    obtain ⟨c2, oc, vs, t, e2, hoc, hd, hv⟩ := hrec
    cases e2
    have nC : H c' = none := I.hok.fresh hge
    have hsz : s.heap.objs.size ≤ h'.objs.size := Nat.le_trans hge (Nat.le_of_lt hlt)
    generalize hfo : PySem.W.kla_obj "<lambda>" (X.env.qual ++ "<lambda>") params body scope (cloFrom X.env.cells scope.names []) ((X.mg "__name__").getD .none) c' ctv = fo
    have I1 := inv_tabL (q := X.env.qual ++ "<lambda>") (c' := c') (ps' := ps ++ #[rawInt pos.line, rawInt pos.col, .ref c']) (h' := h'.push fo) (t' := tk) I hP (fun b o hb e => Heap.get?_push_of_some _ (hx b o hb e)) (Heap.get?_push_of_some _ htb) hge ⟨oc, vs, t, Heap.get?_push_of_some _ hoc, hd, hv⟩
    have nPc : P ≠ c' := ne_of_none hP nC
    have eL : (ps ++ #[rawInt pos.line, rawInt pos.col, .ref c']).toList = ps.toList ++ [rawInt pos.line, rawInt pos.col, .ref c'] := by simp
    have at_ : ∀ b u, b ≠ P → H b = some u → upd (upd H P (TabO P (ps ++ #[rawInt pos.line, rawInt pos.col, .ref c']))) c' (LamX.CodeO c' (X.env.qual ++ "<lambda>")) b = some u := fun b u h1 e => by rw [upd_ne (ne_of_none e nC), upd_ne h1]; exact e
    refine h h'.objs.size c' ((X.mg "__name__").getD .none) ctv _ _ I1 ⟨fun b o hb e _ => at_ b o hb e, fun R qs hb e => ⟨qs, at_ R _ hb e, id⟩⟩ ⟨_, by rw [upd_ne nPc, upd_same], by rw [eL]; exact PySem.TriplesOk_snoc _ _ _ _ htr, fun p2 cv hcv => ?_⟩ (by rw [← hfo]; exact Heap.get?_push_size _ rfl) ?_ (young _ hsz) upd_same
    · rw [eL] at hcv
      rcases LamX.among_app _ htr hcv with z | z
      · obtain ⟨c0, a1, a2⟩ := hall p2 cv z
        refine ⟨c0, a1, at_ c0 _ (fun e => ?_) a2⟩
        obtain ⟨oc2, vs2, t2, g1, g2, g3⟩ := (I.hok c0 _ a2).1
        rw [e, hPs] at g1
        cases g1
        cases g2
        have z5 : codeAmong p2 ps.toList = some cv := z
        rw [e] at a2
        rw [hP] at a2
        have z6 := (I.hok P _ hP).1
        -- a table whose first fields tell a text is none
        cases hl : ps.toList with
        | nil => rw [hl] at z5; simp [codeAmong] at z5
        | cons v1 r1 =>
          cases r1 with
          | nil => rw [hl] at htr; exact (by simp [TriplesOk] at htr)
          | cons v2 r2 =>
            have g4 : ps.toList[1]? = some (.str (X.env.qual ++ "<lambda>") t2) := by rw [Array.getElem?_toList]; exact g3
            rw [hl] at g4 htr
            have g5 : v2 = .str (X.env.qual ++ "<lambda>") t2 := Option.some.inj g4
            rw [g5] at htr
            cases v1 <;> simp [TriplesOk] at htr
      · exact ⟨c', z, upd_same⟩
    · have n1 : h'.objs.size ≠ c' := Nat.ne_of_gt hlt
      have n2 : h'.objs.size ≠ P := Nat.ne_of_gt (Nat.lt_of_lt_of_le (Heap.lt_size hPs) hsz)
      rw [upd_ne n1, upd_ne n2]
      exact I.hok.fresh hsz
/-- one parameter, no other name of its own -/
structure LamP (sc : Scope) (N : List Str) (scope : Scope) (x : Str) : Prop where
  kind : scope.kind = .function
  co : scope.isCoroutine = false
  gen : scope.isGenerator = false
  par : scope.names.lookup x = some .local
  nocell : ∀ y ∈ scope.names, y.2 ≠ .cell
  free : ∀ y ∈ scope.names, y.2 = .free → sc.names.lookup y.1 = some .cell ∨ sc.names.lookup y.1 = some .free
  own : ∀ y ∈ N, scope.names.lookup y ≠ some .local
def lamPB (sc : Scope) (N : List Str) (scope : Scope) (x : Str) : Bool :=
  decide (scope.kind = .function) && !scope.isCoroutine && !scope.isGenerator && decide (scope.names.lookup x = some .local) && (scope.names.all fun y => !decide (y.2 = .cell)) && (scope.names.all fun y => !decide (y.2 = .free) || decide (sc.names.lookup y.1 = some .cell) || decide (sc.names.lookup y.1 = some .free)) &&
  N.all fun y => !decide (scope.names.lookup y = some .local)
theorem lamP_by {sc : Scope} {N : List Str} {scope : Scope} {x : Str} (h : lamPB sc N scope x = true) : LamP sc N scope x := by
  unfold lamPB at h
  simp only [Bool.and_eq_true, Bool.or_eq_true, Bool.not_eq_true', decide_eq_true_eq, decide_eq_false_iff_not, List.all_eq_true] at h
  obtain ⟨⟨⟨⟨⟨⟨a1, a2⟩, a3⟩, a4⟩, a5⟩, a6⟩, a7⟩ := h
  exact ⟨a1, a2, a3, a4, a5, fun y hy e => (a6 y hy).elim (fun z => z.elim (fun z => absurd e z) .inl) .inr, a7⟩
theorem LamP.has {scope : Scope} {x : Str} (L : LamP X.env.scope X.N scope x) (ok : X.Ok) : ∀ y ∈ scope.names, y.2 = .free → ∃ c, X.env.cells.lookup y.1 = some c := fun y hy e => (L.free y hy e).elim (fun z => ok.has _ (.inl z)) fun z => ok.has _ (.inr z)
/-- the context of such a lambda's body -/
def lamCx1 (X : Cx) (A : Around) (outer : List Env) (s : Shared) (H : Hp) (scope : Scope) (f c' : Addr) (x : Str) : Cx :=
  { LamX.lamCx X A outer s H (fun _ _ _ => False) scope f c' with N := X.N ++ [x], xe := fun _ _ => False }
theorem lam_startP {HZ : Hp} {s1 : Shared} {A : Around} {outer : List Env} {scope : Scope} {f c' : Addr} {x : Str} {v : V} {u : Value} {h₁ : Heap} {tk : Nat} (I : Inv X pins σ H s) (L : LamP X.env.scope X.N scope x) (e0 : Env0 X.prog X.w X.K X.mg X.base A outer s1 HZ) (hd : A.handled = none)
    (un : Un (frs X.stack) [] H HZ s.heap s1.heap) (r : RelV v u) (hns : h₁.Ns s1.heap.objs.size fun y => [(x, u)].reverse.lookup y) (kp : ∀ b o, s1.heap.get? b = some o → h₁.get? b = some o) :
    Inv (lamCx1 X A outer s1 HZ scope f c' x) [] (σ ++ [some v]) HZ { s1 with heap := h₁, toks := tk } := by
  have back : ∀ {y c}, (cloFrom X.env.cells scope.names []).lookup y = some c → X.env.cells.lookup y = some c := fun {y c} e => by
    rcases cloFrom_mem (PySem.mem_of_lookup e) with z | ⟨z1, z2⟩
    · cases z
    · obtain ⟨c1, z3⟩ := L.has I.ok _ z1 rfl
      rw [z2, z3]
      rfl
  have forth : ∀ {y}, scope.names.lookup y = some .free → ∃ c, (cloFrom X.env.cells scope.names []).lookup y = some c := fun {y} e => mem_lookup (cloFrom_has (cells := X.env.cells) (acc := []) (PySem.mem_of_lookup e))
  have cells : ∀ {c : Addr} {z : Option Value}, H c = none → s.heap.IsCell c z → h₁.IsCell c z := fun {c z} n ⟨o, ho, hz⟩ => by
    obtain ⟨sl, e⟩ := un.any ho n (by simp)
    exact ⟨_, kp _ _ e, hz⟩
  have ok : (lamCx1 X A outer s1 HZ scope f c' x).Ok := by
    refine ⟨e0.mod, L.kind, rfl, rfl, Nat.le_refl _, fun y z c a1 a2 => I.ok.inj y z c (back a1) (back a2), fun y hy => ?_, fun y c z _ => ?_, fun _ => hd, Around.frames_deeper e0.frames, .inr ⟨rfl, rfl⟩, fun b z => ?_, e0.bs, e0.bsz, fun b o _ z => ?_, fun b z => ?_, e0.funs, e0.frf⟩
    · have hy : scope.names.lookup y = some .cell ∨ scope.names.lookup y = some .free := hy
      rcases hy with hy | hy
      · exact absurd rfl (L.nocell _ (PySem.mem_of_lookup hy))
      · exact forth hy
    · have z : false = true := z
      cases z
    · have z : b ∈ ([] : List Addr) := z
      cases z
    · have z : b ∈ ([] : List Addr) := z
      cases z
    · have z : b ∈ ([] : List Addr) := z
      cases z
  refine ⟨ok, rfl, e0.bare, Un.kept kp, ⟨_, hns, fun i y w a1 a2 a3 => ?_⟩, fun y c e => ?_, e0.hok.fresh (Nat.le_refl _), fun y c e => ?_, fun p hp => ?_, e0.hok.kept kp, ?_⟩
  · have a1 : (X.N ++ [x])[i]? = some y := a1
    have a3 : Vis scope y := a3
    by_cases hi : i < X.N.length
    · rw [List.getElem?_append_left hi] at a1
      rw [List.getElem?_append_left (by rw [I.len]; exact hi)] at a2
      rcases a3 with z | z | z
      · exact absurd z (L.own y (List.mem_of_getElem? a1))
      · exact absurd rfl (L.nocell _ (PySem.mem_of_lookup z))
      · obtain ⟨m, _, hl⟩ := I.loc
        have fr := L.free _ (PySem.mem_of_lookup z) rfl
        obtain ⟨w', rw', q⟩ := hl i y w a1 a2 (fr.elim (fun k => .inr (.inl k)) fun k => .inr (.inr k))
        obtain ⟨c2, e2⟩ := forth z
        refine ⟨w', rw', .inr ⟨.inr z, c2, e2, ?_⟩⟩
        rcases q with ⟨k, _⟩ | ⟨_, c3, e3, k⟩
        · have k : X.env.scope.names.lookup y = some .local := k
          rcases fr with k2 | k2 <;> rw [show X.env.scope.names.lookup y = _ from k2] at k <;> cases k
        · rw [back e2] at e3
          cases e3
          exact cells (I.freeC y _ (back e2)) k
    · have hi2 : X.N.length ≤ i := by omega
      rw [List.getElem?_append_right hi2] at a1
      rw [List.getElem?_append_right (by rw [I.len]; exact hi2), I.len] at a2
      cases hj : i - X.N.length with
      | zero =>
        rw [hj] at a1 a2
        cases a1
        cases a2
        refine ⟨u, r, .inl ⟨L.par, ?_⟩⟩
        simp
      | succ j =>
        rw [hj] at a1
        cases a1
  · obtain ⟨w', z⟩ := I.cell y c (back e)
    exact ⟨w', cells (I.freeC y c (back e)) z⟩
  · obtain ⟨w', o, ho, hz⟩ := I.cell y c (back e)
    exact un.free c o ho (I.freeC y c (back e)) (by simp)
  · have hp : p ∈ ([] : List (Addr × Obj)) ++ [] := hp
    cases hp
  · show (σ ++ [some v]).length = (X.N ++ [x]).length
    rw [List.length_append, List.length_append, I.len]
    rfl
/-- a(e), in the def that got the lambda -/
theorem pe_actP {CXg : CXT} {Eg : XK} {Ng : List Str} {qg : Str} {sg : Scope} {g f c' : Addr} {cdg pm ctv : Value} {params : Arguments} {body e : Expr} {scope : Scope} {k i : Nat} {a x : Str} {te tb : TE} {p1 p2 : Pos}
    (I : Inv X pins σ H s) (L : LamP X.env.scope X.N scope x) (hf : s.heap.get? f = some (PySem.W.kla_obj "<lambda>" (X.env.qual ++ "<lambda>") params body scope (cloFrom X.env.cells scope.names []) pm c' ctv)) (hfn : H f = none) (hfr : f ∉ frs X.stack)
    (hbind : ∀ u, bindArgs (PySem.W.kla_fn "<lambda>" (X.env.qual ++ "<lambda>") params body scope (cloFrom X.env.cells scope.names []) pm (.ref c') ctv) ⟨[u], []⟩ = pure [(x, u)]) (hr : Room (k + 1) (X.A.deeper (envOfC qg sg s.heap.objs.size g cdg)))
    (hbody : ∀ (A : Around) (outer : List Env) (s : Shared) (H : Hp), Room k (A.deeper (LamX.lamEnv X scope s.heap.objs.size f c')) → PE (lamCx1 X A outer s H scope f c' x) body tb)
    (he : PE (cxOf CXg X.prog X.w X.K X.mg X.base Ng qg sg g cdg X.A X.stack s H Eg).nox e te) (hN : Ng[i]? = some a) (hv : Vis sg a) (hd : (a == ("__debug__" : Str)) = false := by decide) (hcd : (a == ("__classdict__" : Str)) = false := by decide)
    (hst : starEach [e] (cxOf CXg X.prog X.w X.K X.mg X.base Ng qg sg g cdg X.A X.stack s H Eg).nox.env = (false, eval e (cxOf CXg X.prog X.w X.K X.mg X.base Ng qg sg g cdg X.A X.stack s H Eg).nox.env) :: starEach [] (cxOf CXg X.prog X.w X.K X.mg X.base Ng qg sg g cdg X.A X.stack s H Eg).nox.env) :
    PE (cxOf CXg X.prog X.w X.K X.mg X.base Ng qg sg g cdg X.A X.stack s H Eg).nox (.Call (.Name a p1) [e] [] p2)
      (fun σZ HZ Q => σZ[i]? = some (some (.ref f)) ∧ te σZ HZ fun v H1 => H1 c' = some (LamX.CodeO c' (X.env.qual ++ "<lambda>")) ∧ tb (σ ++ [some v]) H1 Q) := by
  refine ⟨fun pinsZ sZ σZ HZ Q IZ h => ?_⟩
  obtain ⟨hs, ht⟩ := h
  refine wpAny_Call_Name_kw (thn ((pe_var (pos := p1) (i := i) hN hv hd hcd).run pinsZ sZ σZ HZ (fun v H1 => v = .ref f ∧ H1 = HZ) IZ ⟨.ref f, hs, rfl, rfl⟩) fun u s1 ⟨v, H1, I1, r1, q1⟩ => ?_)
  obtain ⟨rfl, rfl⟩ := q1
  obtain rfl : u = Value.ref f := r1
  have fAt : ∀ {s2 : Shared} {H2 : Hp} {σ2 : L2.St} {pins2 : List (Addr × Obj)}, Inv (cxOf CXg X.prog X.w X.K X.mg X.base Ng qg sg g cdg X.A X.stack s H Eg).nox pins2 σ2 H2 s2 → s2.heap.get? f = some (PySem.W.kla_obj "<lambda>" (X.env.qual ++ "<lambda>") params body scope (cloFrom X.env.cells scope.names []) pm c' ctv) := fun J => J.base.keep f _ hf hfn hfr (fun z => nomatch (show f ∈ ([] : List Addr) from z))
  refine PySem.W.callWith_F ⟨_, _, _, _, fAt I1⟩ ?_ hst rfl
  rw [hst]
  refine Calls.spliced_cons (thn (he.run pinsZ s1 σZ H1 _ I1 ht) fun av s2 ⟨v2, H2, I2, r2, q2⟩ => Calls.spliced_nil ⟨⟨_, _, _, _, fAt I2⟩, ?_⟩)
  obtain ⟨hco, q2⟩ := q2
  obtain ⟨⟨oc, vs, t, hoc, hdc, hvc⟩, _, _⟩ := I2.hok c' _ hco
  have un : Un (frs X.stack) [] H H2 s.heap s2.heap := I2.base
  have rc : codeAny (model X.prog X.w) (X.A.deeper (envOfC qg sg s.heap.objs.size g cdg)) (.call (.ref f) ⟨[av], []⟩) (CR C8.CX0 (envOfC qg sg s.heap.objs.size g cdg :: X.stack) X.prog X.w H2 s2 Q C8.E0) s2 := by
    refine PySem.W.kla_callFunE hr.depth (fAt I2) rfl L.co L.gen rfl ⟨c', oc, vs, t, rfl, hoc, hdc, hvc⟩ ?_
    rw [hbind av]
    refine wpAny_pure (wpAny_newFunctionEnv L.nocell (fun y hy => ?_) (fun h₁ hns hsb => ⟨I2.nolimit.fresh _ hsb, ?_⟩) L.kind)
    · rw [List.mem_singleton.mp hy]
      exact L.par
    show codeAny _ _ (.expr body (LamX.lamEnv X scope s2.heap.objs.size f c')) _ _
    have J := lam_startP (tk := s2.toks + [(x, av)].length) (A := X.A.deeper (envOfC qg sg s.heap.objs.size g cdg)) (outer := envOfC qg sg s.heap.objs.size g cdg :: X.stack) (f := f) (c' := c') I L I2.env0 hr.hd un r2 hns fun b o z => hsb.extBut b o (Nat.ne_of_lt (Heap.lt_size z)) (Heap.get?_push_of_some _ z)
    refine PySem.W.kla_codeExpr (wpAny_mono ((hbody _ _ s2 H2 (hr.deeper _)).run [] _ _ H2 Q J q2) (fun w s' hq => ?_) fun z s' hq => False.elim hq)
    obtain ⟨w', H', J', rv, qq⟩ := hq
    exact ⟨w', H', J'.os, J'.bare, J'.base, J'.hok, rv, qq⟩
  refine wpAny_call (codeAny_mono rc fun r s' hq => ?_)
  cases r with
  | error z => exact (show False from hq).elim
  | ok fl =>
    cases fl with
    | ret w => exact I2.after hq
    | next => exact False.elim hq
    | brk => exact False.elim hq
    | cont => exact False.elim hq
/-- the context of a def of three parameters, entered at s with a lambda behind two values -/
abbrev cxL (X : Cx) (Ng : List Str) (x : Str) (st : Stmt) (g cg : Addr) (s : Shared) (H : Hp) : Cx := (cxOf C8.CX0 X.prog X.w X.K X.mg X.base Ng x (defScope st) g (.ref cg) X.A X.stack s H C8.E0).nox
/-- how the def's body reads the lambda's call -/
def ActP (Z : Cx) (a : Str) (i : Nat) (f c' : Addr) (q : Str) (tl : Hp → V → VK → Prop) : Prop := ∀ {e : Expr} {te : TE} {p1 p2 : Pos}, PE Z e te → starEach [e] Z.env = (false, eval e Z.env) :: starEach [] Z.env →
  PE Z (.Call (.Name a p1) [e] [] p2) (fun σZ HZ Q => σZ[i]? = some (some (.ref f)) ∧ te σZ HZ fun v H1 => H1 c' = some (LamX.CodeO c' q) ∧ tl H1 v Q)
def tLamP (P : Addr) (q : Str) (TT : V → V → (Hp → V → VK → Prop) → Hp → VK → Prop) (t1 t2 tb : TE) : TE := fun σ H Q => t1 σ H fun v1 H1 => t2 σ H1 fun v2 H2 => TabL H2 P q ∧ ∀ H3, Xn P H2 H3 → TabL H3 P q → TT v1 v2 (fun H' v Q' => tb (σ ++ [some v]) H' Q') H3 Q
theorem pe_lamcallP {x a y : Str} {st : Stmt} {g cg c P : Addr} {fd : FuncData} {Ng ps : List Str} {e1 e2 body : Expr} {params : Arguments} {scope : Scope} {t1 t2 tb : TE} {p lpos pos : Pos} {k : Nat} {TT : V → V → (Hp → V → VK → Prop) → Hp → VK → Prop}
    (hg : Gl X x) (hm : X.mg x = some (.ref g)) (F : FunT X.K x st g fd cg) (Sg : FnScope Ng ps (defScope st)) (hb : Binds X.K fd ps []) (hps : ps.length = 3) (hN : Ng[2]? = some a) (hva : Vis (defScope st) a)
    (hG : ∀ (f c' : Addr) (s : Shared) (H : Hp) (Q : VK) (tl : Hp → V → VK → Prop) (v1 v2 : V), Room (k + 1) (X.A.deeper (envOfC x (defScope st) s.heap.objs.size g (.ref cg))) → ActP (cxL X Ng x st g cg s H) a 2 f c' (X.env.qual ++ "<lambda>") tl → H c' = some (LamX.CodeO c' (X.env.qual ++ "<lambda>")) → TT v1 v2 tl H Q →
      ∃ t, PSs (cxL X Ng x st g cg s H) (defBody st) t ∧ t { nx := fun _ H' => Q .non H', rt := Q } (L2.start Ng [v1, v2, .ref f]) H)
    (TB : GxR.TabB X.base X.mg c P) (hcode : X.env.code = .ref c) (hr : Room (k + 2) X.A) (L : LamP X.env.scope X.N scope y) (hdef : defaultsOf params X.env = ([], []))
    (hbind : ∀ (q : Str) (cl : List (Str × Addr)) (pm cv ctv u : Value), bindArgs (PySem.W.kla_fn "<lambda>" q params body scope cl pm cv ctv) ⟨[u], []⟩ = pure [(y, u)])
    (hbody : ∀ (A : Around) (outer : List Env) (s : Shared) (H : Hp) (f c' : Addr), Room k (A.deeper (LamX.lamEnv X scope s.heap.objs.size f c')) → PE (lamCx1 X A outer s H scope f c' y) body tb)
    (h1 : PE X e1 t1) (h2 : PE X e2 t2) (hst1 : starEach [e1, e2, .Lambda params body scope lpos] X.env = (false, eval e1 X.env) :: starEach [e2, .Lambda params body scope lpos] X.env)
    (hst2 : starEach [e2, .Lambda params body scope lpos] X.env = (false, eval e2 X.env) :: starEach [.Lambda params body scope lpos] X.env)
    (hdb : (x == ("__debug__" : Str)) = false := by decide) (hd : (a == ("__debug__" : Str)) = false := by decide) (hcd : (a == ("__classdict__" : Str)) = false := by decide) :
    PE X (.Call (.Name x p) [e1, e2, .Lambda params body scope lpos] [] pos) (tLamP P (X.env.qual ++ "<lambda>") TT t1 t2 tb) := by
  obtain ⟨oc, od, kV, doc, pm, an, ct, osl, rfl, lk, hcd2⟩ := F.ex
  refine ⟨fun pins s σ H Q I h => ?_⟩
  refine wpAny_Call_Name_kw (ld_glob I hg hm ?_ hdb)
  refine PySem.W.callWith_K (h₀ := X.base) I.ok.mod.kin F.kp ?_ hst1 (by rw [hst2]; rfl)
  rw [hst1]
  show wpAny _ _ (spliced ((false, eval e1 X.env) :: backTo pos (starEach [e2, .Lambda params body scope lpos] X.env))) _ _ s
  refine Calls.spliced_cons (thn (h1.run pins s σ H _ I h) fun u1 s1 ⟨v1, H1, I1, r1, q1⟩ => ?_)
  rw [hst2]
  show wpAny _ _ (spliced ((false, eval e2 X.env) :: backTo pos (starEach [.Lambda params body scope lpos] X.env))) _ _ s1
  refine Calls.spliced_cons (thn (h2.run pins s1 σ H1 _ I1 q1) fun u2 s2 ⟨v2, H2, I2, r2, q2⟩ => ?_)
  obtain ⟨hT, q2⟩ := q2
  show wpAny _ _ (spliced ((false, eval (.Lambda params body scope lpos) X.env) :: backTo pos (starEach [] X.env))) _ _ s2
  refine Calls.spliced_cons (lam_makeL I2 TB hcode hT hdef (L.has I.ok) fun f c' pm' ctv H3 s3 I3 xn T3 hf hfn hfr hco => ?_)
  refine Calls.spliced_nil ⟨I3.kIn, ?_⟩
  have rc : codeAny (model X.prog X.w) X.A (.call (.ref g) ⟨[u1, u2, .ref f], []⟩) (CR C8.CX0 X.stack X.prog X.w H3 s3 Q C8.E0) s3 := by
    refine LamX.run_ofS (N := Ng) (ps := ps) (us := [u1, u2, .ref f]) (vs := [v1, v2, .ref f]) lk hcd2 Sg hr I3.env0 (hb s3 [u1, u2, .ref f] I3.kIn (by rw [hps]; rfl)) (.cons r1 (.cons r2 (.cons rfl .nil))) (by rw [hps]; rfl) fun hr' => ?_
    obtain ⟨t', ht', hq'⟩ := hG f c' s3 H3 Q (fun H' v Q' => tb (σ ++ [some v]) H' Q') v1 v2 hr' (fun {e te p1 p2} he hst => pe_actP (i := 2) I3 L hf hfn hfr (fun u => hbind _ _ _ _ _ u) hr' (fun A outer s H hr2 => hbody A outer s H f c' hr2) he hN hva hd hcd hst) hco (q2 H3 xn T3)
    exact ⟨t', ht'.nox, hq'⟩
  refine wpAny_call (codeAny_mono rc fun r s4 hq => ?_)
  cases r with
  | error z => exact (show False from hq).elim
  | ok fl =>
    cases fl with
    | ret w => exact I3.after hq
    | next => exact False.elim hq
    | brk => exact False.elim hq
    | cont => exact False.elim hq
end
end Gx
set_option Elab.async false
set_option linter.all false
set_option maxRecDepth 100000
set_option maxHeartbeats 4000000
/-! tables whose keys are nested tuples -/
namespace L2
theorem Room.u8 {k : Nat} {A : PySem.Around} (r : Room k A) : A.units + 8 < PySem.cLine := by have := r.un; omega
theorem Room.u9 {k : Nat} {A : PySem.Around} (r : Room k A) : A.units + 9 < PySem.cLine := by have := r.un; omega
end L2
namespace Dn
open PySem PySem.Spec PyProof.Rows L2 Gx Sn Lw
abbrev Ent := NestedKey × Addr × V
def EntOk (p : Ent) (q : NestedKey × Addr × Value) : Prop := p.1 = q.1 ∧ p.2.1 = q.2.1 ∧ RelV p.2.2 q.2.2
abbrev knN (P : Program) (w : World) : HeapKind P w NestedKey := nestedKind P w
def DnPhi (P : Program) (w : World) (a : Addr) (es : List Ent) (h : Heap) : Prop := (a == sysModules) = false ∧ ∃ xs, Paired EntOk es xs ∧
  ∃ o ds ep, h.get? a = some o ∧ o.ExactDict ∧ o.data = .dict ds ep ∧ ds.toList = xs.map (entryOfKey (knN P w)) ∧ (xs.map (·.1)).Nodup
def DnO (P : Program) (w : World) (a : Addr) (es : List Ent) : HO := .ext (DnPhi P w a es)
def vals (es : List Ent) : List (NestedKey × V) := es.map fun e => (e.1, e.2.2)
/-- a dict at a, its pairs in order -/
structure DnAt (P : Program) (w : World) (K : PySem.W.Frag) (H : Hp) (a : Addr) (kvs : List (NestedKey × V)) : Prop where
  ex : ∃ es, H a = some (DnO P w a es) ∧ (∀ e ∈ es, NkV K H e.1 (.ref e.2.1) ∧ e.1.depth ≤ 8) ∧ kvs = vals es
  len : kvs.length ≤ sizeLine
section
variable {P : Program} {w : World} {K : PySem.W.Frag} {H H' : Hp} {a : Addr} {kvs : List (NestedKey × V)}
theorem DnAt.xt (x : Xt H H') (h : DnAt P w K H a kvs) : DnAt P w K H' a kvs := by
  obtain ⟨⟨es, e, k, v⟩, l⟩ := h
  exact ⟨⟨es, x.keep _ _ e fun _ => nofun, fun z hz => ⟨nkV_tk (.of_xt x) _ _ (k z hz).1, (k z hz).2⟩, v⟩, l⟩
theorem DnAt.xd {d : Addr} (hd : Dr H d) (x : Xd d H H') (h : DnAt P w K H a kvs) : DnAt P w K H' a kvs := by
  obtain ⟨⟨es, e, k, v⟩, l⟩ := h
  have ne : a ≠ d := fun z => by
    obtain ⟨ns, q⟩ := hd
    rw [z, q] at e
    cases e
  exact ⟨⟨es, x.keep _ _ ne e fun _ => nofun, fun z hz => ⟨nkV_tk (.of_xd hd x) _ _ (k z hz).1, (k z hz).2⟩, v⟩, l⟩
theorem DnAt.ne_none (h : DnAt P w K H a kvs) {p : Addr} (hp : H p = none) : a ≠ p := fun z => by
  obtain ⟨⟨es, e, _⟩, _⟩ := h
  rw [z, hp] at e
  cases e
theorem DnAt.ne_lst (h : DnAt P w K H a kvs) {p : Addr} {l : List V} (hp : H p = some (.lst l)) : a ≠ p := fun z => by
  obtain ⟨⟨es, e, _⟩, _⟩ := h
  rw [z, hp] at e
  cases e
theorem tk_at {o u : HO} (h : H a = some o) (ho : ∀ xs, o ≠ .tup xs) (hf : ∀ q xs, o ≠ .frz q (.tup xs)) : Tk H (upd H a u) := by
  refine ⟨fun b xs e => ?_, fun b q xs e => ?_⟩
  · rw [upd_ne fun z => by rw [z, h] at e; exact ho xs (Option.some.inj e)]
    exact e
  · rw [upd_ne fun z => by rw [z, h] at e; exact hf q xs (Option.some.inj e)]
    exact e
/-- another list is stored anew -/
theorem DnAt.lst {q : Addr} {l : List V} {o : HO} (h : DnAt P w K H a kvs) (hq : H q = some (.lst l)) : DnAt P w K (upd H q o) a kvs := by
  have ne := h.ne_lst hq
  obtain ⟨⟨es, e, k, v⟩, len⟩ := h
  exact ⟨⟨es, by rw [upd_ne ne]; exact e, fun z hz => ⟨nkV_tk (tk_at hq (fun _ => nofun) fun _ _ => nofun) _ _ (k z hz).1, (k z hz).2⟩, v⟩, len⟩
theorem vals_len (es : List Ent) : (vals es).length = es.length := List.length_map ..
end
theorem paired_mem {α β : Type} {F : α → β → Prop} : ∀ {l : List α} {m : List β}, Paired F l m → ∀ y ∈ m, ∃ x ∈ l, F x y
  | _, _, .nil, y, h => by cases h
  | _, _, .cons r t, y, h => by
    rcases List.mem_cons.mp h with rfl | h
    · exact ⟨_, List.mem_cons_self .., r⟩
    · obtain ⟨x, hx, f⟩ := paired_mem t y h
      exact ⟨x, List.mem_cons_of_mem _ hx, f⟩
theorem kv_of : ∀ {es : List Ent} {xs : List (NestedKey × Addr × Value)}, Paired EntOk es xs → KV (vals es) (pairsH xs)
  | _, _, .nil => .nil
  | _, _, .cons ⟨e1, _, r⟩ t => .cons ⟨e1, r⟩ (kv_of t)
section
variable {X : Cx} {pins : List (Addr × Obj)} {σ : L2.St} {H : Hp} {s : Shared} {a : Addr} {kvs : List (NestedKey × V)} {A : Around} {E : Value → Shared → Prop}
theorem dn_of {es : List Ent} (I : Inv X pins σ H s) (h : H a = some (DnO X.prog X.w a es)) (hk : ∀ e ∈ es, NkV X.K H e.1 (.ref e.2.1) ∧ e.1.depth ≤ 8) :
    (a == sysModules) = false ∧ ∃ xs, Paired EntOk es xs ∧ s.heap.DictOfH (knN X.prog X.w) a xs := by
  obtain ⟨⟨hs, xs, pr, o, ds, ep, h1, h2, h3, h4, h5⟩, _⟩ := (show ObjOk X.prog X.w H s.heap a (.ext (DnPhi X.prog X.w a es)) from I.hok a _ h)
  refine ⟨hs, xs, pr, o, ds, ep, h1, h2, h3, h4, fun x hx => ?_, h5⟩
  obtain ⟨e, he, e1, e2, _⟩ := paired_mem pr x hx
  obtain ⟨n1, n2⟩ := hk e he
  rw [← e1, ← e2]
  exact ⟨nk_is I _ _ _ n1 rfl, n2⟩
theorem key_is {k : NestedKey} {b : Addr} (I : Inv X pins σ H s) (h : NkV X.K H k (.ref b)) (hd : k.depth ≤ 8) : (knN X.prog X.w).is s.heap k b := ⟨nk_is I _ _ _ h rfl, hd⟩
theorem dn_get (I : Inv X pins σ H s) (h : DnAt X.prog X.w X.K H a kvs) : (a == sysModules) = false ∧ ∃ us, KV kvs us ∧ s.heap.DictKeyed (knN X.prog X.w) a us := by
  obtain ⟨⟨es, e, k, rfl⟩, l⟩ := h
  obtain ⟨hs, xs, pr, hd⟩ := dn_of I e k
  exact ⟨hs, _, kv_of pr, xs, hd, rfl⟩
/-- k in d -/
def rInDn (P : Program) (w : World) (K : PySem.W.Frag) (neg : Bool) : R2 := fun x y H Q => ∃ (a b : Addr) (k : NestedKey) (kvs : List (NestedKey × V)), x = .ref b ∧ y = .ref a ∧ NkV K H k (.ref b) ∧ k.depth ≤ 8 ∧ DnAt P w K H a kvs ∧
  Q (.bl (if neg then !(valV kvs k).isSome else (valV kvs k).isSome)) H
theorem op_inDn (hu : X.A.units + 9 < cLine) : OpR X (compareOp .In) (rInDn X.prog X.w X.K false) := by
  rintro ps s σ H x y v u Q I rx ry ⟨a, b, k, kvs, rfl, rfl, hk, hd, D, q⟩
  cases rx
  cases ry
  obtain ⟨hs, us, kv, dk⟩ := dn_get I D
  refine in_keyed (knd := knN X.prog X.w) (show X.A.in1.units + 8 < cLine by rw [units_in1]; omega) (key_is I hk hd) hs dk ?_
  rw [← (kv.val k).isSome_eq]
  exact ⟨.bl _, H, I.tok _, rfl, q⟩
theorem op_notInDn (hu : X.A.units + 9 < cLine) : OpR X (compareOp .NotIn) (rInDn X.prog X.w X.K true) := by
  rintro ps s σ H x y v u Q I rx ry ⟨a, b, k, kvs, rfl, rfl, hk, hd, D, q⟩
  cases rx
  cases ry
  obtain ⟨hs, us, kv, dk⟩ := dn_get I D
  refine notIn_keyed (knd := knN X.prog X.w) (show X.A.in1.units + 8 < cLine by rw [units_in1]; omega) (key_is I hk hd) hs dk ?_
  rw [← (kv.val k).isSome_eq]
  exact ⟨.bl _, H, I.tok _, rfl, q⟩
theorem op_inDnK {P : Program} {w : World} {K : PySem.W.Frag} (hP : X.prog = P) (hw : X.w = w) (hK : X.K = K) (hu : X.A.units + 9 < cLine) : OpR X (compareOp .In) (rInDn P w K false) := by subst hP hw hK; exact op_inDn hu
theorem op_notInDnK {P : Program} {w : World} {K : PySem.W.Frag} (hP : X.prog = P) (hw : X.w = w) (hK : X.K = K) (hu : X.A.units + 9 < cLine) : OpR X (compareOp .NotIn) (rInDn P w K true) := by subst hP hw hK; exact op_notInDn hu
/-! ### stores -/
def putE (es : List Ent) (k : NestedKey) (b : Addr) (v : V) : List Ent := if (es.any fun e => decide (e.1 = k)) = true then es.map (fun e => if e.1 = k then (e.1, e.2.1, v) else e) else es ++ [(k, b, v)]
theorem any_paired {es : List Ent} {xs : List (NestedKey × Addr × Value)} (p : Paired EntOk es xs) (k : NestedKey) : (es.any fun e => decide (e.1 = k)) = (atKey xs k).isSome := by
  rw [← any_pairsH]
  induction p with
  | nil => rfl
  | cons r t ih =>
    obtain ⟨e1, _, _⟩ := r
    unfold pairsH at ih ⊢
    rw [List.any_cons, List.map_cons, List.any_cons, ih, e1]
theorem paired_snoc {α β : Type} {F : α → β → Prop} : ∀ {l : List α} {m : List β} {x : α} {y : β}, Paired F l m → F x y → Paired F (l ++ [x]) (m ++ [y])
  | _, _, _, _, .nil, h => .cons h .nil
  | _, _, _, _, .cons r t, h => .cons r (paired_snoc t h)
theorem paired_put {es : List Ent} {xs : List (NestedKey × Addr × Value)} (p : Paired EntOk es xs) (k : NestedKey) (b : Addr) {v : V} {u : Value} (r : RelV v u) : Paired EntOk (putE es k b v) (storedH xs k b u) := by
  unfold putE storedH
  rw [any_paired p k]
  by_cases h : (atKey xs k).isSome = true
  · rw [if_pos h, if_pos h]
    clear h
    induction p with
    | nil => exact .nil
    | @cons e x es xs r1 t ih =>
      obtain ⟨e1, e2, e3⟩ := r1
      refine .cons ?_ ih
      unfold putAt
      show EntOk (if e.1 = k then (e.1, e.2.1, v) else e) _
      by_cases hk : e.1 = k
      · rw [if_pos hk, if_pos (e1 ▸ hk)]
        exact ⟨e1, e2, r⟩
      · rw [if_neg hk, if_neg (e1 ▸ hk)]
        exact ⟨e1, e2, e3⟩
  · rw [if_neg h, if_neg h]
    exact paired_snoc p ⟨rfl, rfl, r⟩
theorem vals_put (es : List Ent) (k : NestedKey) (b : Addr) (v : V) : vals (putE es k b v) = putK (vals es) k v := by
  have e : ((vals es).any fun kv => decide (kv.1 = k)) = es.any fun e => decide (e.1 = k) := by
    unfold vals
    rw [List.any_map]
    rfl
  unfold putE putK
  rw [e]
  by_cases h : (es.any fun e => decide (e.1 = k)) = true
  · rw [if_pos h, if_pos h]
    unfold vals
    rw [List.map_map, List.map_map]
    refine List.map_congr_left fun z _ => ?_
    show (let q := if z.1 = k then (z.1, z.2.1, v) else z; (q.1, q.2.2)) = if z.1 = k then (z.1, v) else (z.1, z.2.2)
    by_cases hk : z.1 = k
    · rw [if_pos hk, if_pos hk]
    · rw [if_neg hk, if_neg hk]
  · rw [if_neg h, if_neg h]
    unfold vals
    rw [List.map_append]
    rfl
theorem putE_keys {Q : NestedKey → Addr → Prop} {es : List Ent} {k : NestedKey} {b : Addr} {v : V} (h : ∀ e ∈ es, Q e.1 e.2.1) (hk : Q k b) : ∀ e ∈ putE es k b v, Q e.1 e.2.1 := fun e he => by
  unfold putE at he
  split at he
  · obtain ⟨z, hz, rfl⟩ := List.mem_map.mp he
    have := h z hz
    split <;> exact this
  · rcases List.mem_append.mp he with he | he
    · exact h e he
    · rw [List.mem_singleton.mp he]; exact hk
theorem dn_write {h' : Heap} {t' : Nat} {es : List Ent} {k : NestedKey} {b : Addr} {v : V} {r : Value} {xs : List (NestedKey × Addr × Value)} (I : Inv X pins σ H s) (h : H a = some (DnO X.prog X.w a es)) (hsys : (a == sysModules) = false) (pr : Paired EntOk es xs) (rv : RelV v r)
    (hs : Heap.SameBut a s.heap h') (hd : h'.DictOfH (knN X.prog X.w) a (storedH xs k b r)) : Inv X pins σ (upd H a (DnO X.prog X.w a (putE es k b v))) { s with heap := h', toks := t' } := by
  obtain ⟨o, ds, ep, h1, h2, h3, h4, _, h5⟩ := hd
  refine d_write I (by rw [h]; exact True.intro) hs ⟨o, h1⟩ ⟨⟨hsys, _, paired_put pr k b rv, o, ds, ep, h1, h2, h3, h4, h5⟩, ⟨o, h1⟩, fun g1 g2 ⟨z, ys, q, o', ds', ep', k1, k2⟩ st => ⟨z, ys, q, o', ds', ep', st _ k1, k2⟩⟩
theorem dn_at {es : List Ent} {k : NestedKey} {b : Addr} {v : V} {K : PySem.W.Frag} (h : H a = some (DnO X.prog X.w a es)) (hk : ∀ e ∈ es, NkV K H e.1 (.ref e.2.1) ∧ e.1.depth ≤ 8) (kb : NkV K H k (.ref b)) (kd : k.depth ≤ 8) (l : es.length < sizeLine) :
    DnAt X.prog X.w K (upd H a (DnO X.prog X.w a (putE es k b v))) a (putK (vals es) k v) := by
  have tk : Tk H (upd H a (DnO X.prog X.w a (putE es k b v))) := tk_at h (fun _ => nofun) fun _ _ => nofun
  refine ⟨⟨_, upd_same .., putE_keys (Q := fun k b => NkV K (upd H a (DnO X.prog X.w a (putE es _ _ v))) k (.ref b) ∧ k.depth ≤ 8) (fun e he => ⟨nkV_tk tk _ _ (hk e he).1, (hk e he).2⟩) ⟨nkV_tk tk _ _ kb, kd⟩, (vals_put ..).symm⟩, ?_⟩
  have h2 := length_putK (vals es) k v
  rw [vals_len] at h2
  omega
/-- what a store asks, and leaves -/
def PutDn (P : Program) (w : World) (K : PySem.W.Frag) (H : Hp) (a : Addr) (y v : V) (Q : Hp → Prop) : Prop := ∃ (b : Addr) (k : NestedKey) (kvs : List (NestedKey × V)), y = .ref b ∧ NkV K H k (.ref b) ∧ k.depth ≤ 8 ∧ DnAt P w K H a kvs ∧ kvs.length < sizeLine ∧
  ∀ o, DnAt P w K (upd H a o) a (putK kvs k v) → (∀ H0, Xt H0 H → H0 a = none → Xt H0 (upd H a o)) → Tk H (upd H a o) → Q (upd H a o)
theorem dn_set {y v : V} {u r : Value} {Q : Unit → Shared → Prop} {R : Hp → Prop} (hu : A.units + 8 < cLine) (I : Inv X pins σ H s) (ry : RelV y u) (rv : RelV v r) (p : PutDn X.prog X.w X.K H a y v R) (h : ∀ s' H', Inv X pins σ H' s' → R H' → Q () s') : wpAny (model X.prog X.w) A (dictSet a u r) Q E s := by
  obtain ⟨b, k, kvs, rfl, hk, hd, ⟨⟨es, e, ek, rfl⟩, l⟩, l2, q⟩ := p
  cases ry
  obtain ⟨hs, xs, pr, dk⟩ := dn_of I e ek
  have el : xs.length = es.length := (Paired.length pr).symm
  rw [vals_len] at l2
  refine wpAny_dictSet_heap (knd := knN X.prog X.w) (k := k) hu (key_is I hk hd) dk (fun h' hm sb => ?_) (by omega)
  exact h _ _ (dn_write I e hs pr rv sb hm) (q _ (dn_at e ek hk hd l2) (fun H0 x0 n => x0.mut n) (tk_at e (fun _ => nofun) fun _ _ => nofun))
theorem dn_setItem {y v : V} {u r : Value} {Q : Unit → Shared → Prop} {R : Hp → Prop} (hu : A.units + 9 < cLine) (I : Inv X pins σ H s) (ry : RelV y u) (rv : RelV v r) (p : PutDn X.prog X.w X.K H a y v R) (h : ∀ s' H', Inv X pins σ H' s' → R H' → Q () s') : wpAny (model X.prog X.w) A (setItem (.ref a) u r) Q E s := by
  obtain ⟨b, k, kvs, rfl, hk, hd, ⟨⟨es, e, ek, rfl⟩, l⟩, l2, q⟩ := p
  cases ry
  obtain ⟨hs, xs, pr, dk⟩ := dn_of I e ek
  have el : xs.length = es.length := (Paired.length pr).symm
  rw [vals_len] at l2
  refine wpAny_setItem_heap (knd := knN X.prog X.w) (k := k) (show A.in1.units + 8 < cLine by rw [units_in1]; omega) (key_is I hk hd) dk (fun h' hm sb => ?_) (by omega)
  exact h _ _ (dn_write I e hs pr rv sb hm) (q _ (dn_at e ek hk hd l2) (fun H0 x0 n => x0.mut n) (tk_at e (fun _ => nofun) fun _ _ => nofun))
end
/-! ### comprehensions -/
theorem dn_empty {P : Program} {w : World} {H : Hp} (h : Heap) (hb : sysModules < h.objs.size) : ObjOk P w H (h.push { cls := .type "dict", data := .dict #[] }) h.objs.size (DnO P w h.objs.size []) :=
  ⟨⟨beq_eq_false_iff_ne.mpr (Ne.symm (Nat.ne_of_lt hb)), [], .nil, _, #[], 0, Heap.get?_push_size _ rfl, ⟨rfl, rfl, rfl⟩, rfl, rfl, List.nodup_nil⟩, ⟨_, Heap.get?_push_size _ rfl⟩,
    fun g1 g2 ⟨z, ys, q, o', ds', ep', k1, k2⟩ st => ⟨z, ys, q, o', ds', ep', st _ k1, k2⟩⟩
theorem dn_nil {P : Program} {w : World} {K : PySem.W.Frag} {H : Hp} {a : Addr} : DnAt P w K (upd H a (DnO P w a [])) a [] := by
  refine ⟨⟨[], upd_same, fun e he => ?_, rfl⟩, Nat.zero_le _⟩
  cases he
def tDcN (P : Program) (w : World) (K : PySem.W.Frag) (wi : TI) (g : TG) (tt : TT) (tk tv : TE) (vs : List Nat) : TE := fun σ H Q => wi σ H fun J H1 => ∀ D, H1 D = none → ∃ W : Nat → Nat → Hp → Prop, (∃ m, W 0 m (upd H1 D (DnO P w D []))) ∧ ∀ i m H, W i m H →
  (J.stop i H ∧ Q (.ref D) H) ∨ (J.go i H ∧ ∃ Nx : Hp → Prop, (∀ H', Nx H' → ∃ m', m' < m ∧ W (i + 1) m' H') ∧ ∀ x H', J.yld i H x H' → g x (wipe σ vs) H' fun σ2 H2 => wipe σ2 vs = wipe σ vs ∧ tt σ2 H2 fun b H3 =>
    if b = true then tk σ2 H3 fun y H4 => tv σ2 H4 fun z H5 => PutDn P w K H5 D y z Nx else Nx H3)
section
variable {X : Cx}
theorem dcN_core {pins : List (Addr × Obj)} {s : Shared} {σ : L2.St} {H : Hp} {Q : VK} {kx vx tg iter : Expr} {ifs : List Expr} {scope : Scope} {own : List (Str × Nat)} {pos pos' : Pos} {wi : TI} {g : TG} {tt : TT} {tk tv : TE} {use : Option (Value → Sem Unit)} {Qf : Value → Shared → Prop}
    (hu : X.A.units + 8 < cLine) (hCa : X.calm = true) (hNd : X.N.Nodup) (J0v : Inv X pins σ H s) (hIt : PI X tg iter wi) (okB : BlkOk X.N X.env.scope scope own)
    (hTg : ∀ (s : Shared) (H : Hp) (C : Addr) (cl : List (Str × Addr)) (pv : List Addr), PG (X.blk s H scope (compEnvC scope cl C X.env) pv) tg g) (hTs : ∀ (s : Shared) (H : Hp) (C : Addr) (cl : List (Str × Addr)) (pv : List Addr), PTs (X.blk s H scope (compEnvC scope cl C X.env) pv) ifs tt)
    (hKy : ∀ (s : Shared) (H : Hp) (C : Addr) (cl : List (Str × Addr)) (pv : List Addr), PE (X.blk s H scope (compEnvC scope cl C X.env) pv) kx tk)
    (hVl : ∀ (s : Shared) (H : Hp) (C : Addr) (cl : List (Str × Addr)) (pv : List Addr), PE (X.blk s H scope (compEnvC scope cl C X.env) pv) vx tv) (hFo : ∀ x, foldedSetIterable iter X.env x = pure x)
    (hRd : tDcN X.prog X.w X.K wi g tt tk tv (own.map (·.2)) σ H Q)
    (hEnd : ∀ D C s' m H', Inv X pins σ H' s' → Q (.ref D) H' → s'.heap.Ns C m → FpOk X pins H' C → compPost (model X.prog X.w) X.A X.xe use Qf (.ref D) C (.ok .next) s') :
    wpAny (model X.prog X.w) X.A (comprehension (.DictComp kx vx [⟨tg, iter, ifs, 0⟩] scope pos) scope X.env pos' newDict false (eval iter X.env) use) Qf X.xe s := by
  have hfree : ∀ y ∈ scope.names, y.2 = .free → ∃ c, X.env.cells.lookup y.1 = some c := fun y hy e => by
    rcases okB.free y hy e with k | k
    · exact J0v.ok.has _ (.inl k)
    · exact J0v.ok.has _ (.inr k)
  refine wpAny_comprehension_free (use := use) rfl hFo (closure_ok hfree) okB.kind (fun y hy e => by rw [okB.uniq y hy, e])
    (thn (hIt.run pins s σ H _ J0v hRd) fun xw q1s hx => thn hx fun itw q2s h2 => ?_)
  obtain ⟨it, pv, tq, J, G2, e, J2v, Tw, sA2, fq2, q⟩ := h2
  subst e
  refine wpAny_newObj_type (newEnv_comp ?_)
  generalize hNew : q2s.heap.objs.size = D
  have hFree : G2 D = none := J2v.hok.fresh (Nat.le_of_eq hNew)
  obtain ⟨W, ⟨mS, wS⟩, trn⟩ := q D hFree
  -- the new dict
  generalize hs3 : ({ q2s with heap := q2s.heap.push { cls := .type "dict", data := .dict #[] } } : Shared) = q3s
  have J3v : Inv X pins σ (upd G2 D (DnO X.prog X.w D [])) q3s := by
    rw [← hs3]
    refine J2v.laid (t' := q2s.toks) (fun b o e => Heap.get?_push_of_some _ e) (Nat.le_of_eq hNew) ?_
    rw [← hNew]
    exact dn_empty q2s.heap J2v.big
  have h3 : q3s.heap = q2s.heap.push { cls := .type "dict", data := .dict #[] } := by rw [← hs3]
  have szb : ∀ b ∈ pv, b < q2s.heap.objs.size := fun b hb => by
    obtain ⟨o, e, _⟩ := Tw.obj _ _ sA2 b hb
    exact Heap.lt_size e
  have fq3 : ∀ b ∈ pv, FpOk X pins (upd G2 D (DnO X.prog X.w D [])) b ∧ b < q3s.heap.objs.size := fun b hb => by
    have hlt := szb b hb
    refine ⟨⟨?_, (fq2 b hb).2⟩, by rw [h3, Heap.size_push]; exact Nat.lt_succ_of_lt hlt⟩
    rw [upd_ne (by rw [← hNew]; exact Nat.ne_of_lt hlt)]
    exact (fq2 b hb).1
  have sA3 : tq 0 q3s.heap := Tw.keep _ _ _ sA2 fun b _ o e => by rw [h3]; exact Heap.get?_push_of_some _ e
  have J4v := block_start J3v okB hNd fq3
  have rTg := hTg q3s (upd G2 D (DnO X.prog X.w D [])) q3s.heap.objs.size (cellsFrom (q3s.heap.objs.size + 1) scope.names (cloFrom X.env.cells scope.names [])) pv
  have rTs := hTs q3s (upd G2 D (DnO X.prog X.w D [])) q3s.heap.objs.size (cellsFrom (q3s.heap.objs.size + 1) scope.names (cloFrom X.env.cells scope.names [])) pv
  have rKy := hKy q3s (upd G2 D (DnO X.prog X.w D [])) q3s.heap.objs.size (cellsFrom (q3s.heap.objs.size + 1) scope.names (cloFrom X.env.cells scope.names [])) pv
  have rVl := hVl q3s (upd G2 D (DnO X.prog X.w D [])) q3s.heap.objs.size (cellsFrom (q3s.heap.objs.size + 1) scope.names (cloFrom X.env.cells scope.names [])) pv
  show codeAny _ _ (.compStart (.DictComp kx vx [⟨tg, iter, ifs, 0⟩] scope pos) 0 (.ref it) (.ref D) (compEnvC scope (cellsFrom (q3s.heap.objs.size + 1) scope.names (cloFrom X.env.cells scope.names [])) q3s.heap.objs.size X.env)) (compPost (model X.prog X.w) X.A X.xe use Qf (.ref D) q3s.heap.objs.size) { q3s with heap := pushCells (q3s.heap.push { cls := .type "dict", data := .dict #[] }) scope.names }
  have nPv : ∀ b ∈ pv, (upd G2 D (DnO X.prog X.w D [])) b = none := fun b hb => (fq3 b hb).1.1
  generalize hce : compEnvC scope (cellsFrom (q3s.heap.objs.size + 1) scope.names (cloFrom X.env.cells scope.names [])) q3s.heap.objs.size X.env = bEnv at J4v rTg rTs rKy rVl ⊢
  have cL : bEnv.locals = q3s.heap.objs.size := by subst hce; rfl
  generalize hH3 : upd G2 D (DnO X.prog X.w D []) = G3 at J3v J4v rTg rTs rKy rVl wS nPv fq3
  generalize hs4 : ({ q3s with heap := pushCells (q3s.heap.push { cls := .type "dict", data := .dict #[] }) scope.names } : Shared) = u4 at J4v ⊢
  have sA4 : tq 0 u4.heap := Tw.keep _ _ _ sA3 fun b _ o e => by rw [← hs4]; exact pushCells_keeps _ _ _ _ (Heap.get?_push_of_some _ e)
  have still : ∀ {σ' : L2.St} {H' : Hp} {s' : Shared}, Inv (X.blk q3s G3 scope bEnv pv) [] σ' H' s' → (∀ b ∈ pv, H' b = none) → ∀ b ∈ pv, FpOk (X.blk q3s G3 scope bEnv pv) [] H' b := fun {σ' H' s'} I' hn b hb =>
    ⟨hn b hb, (I'.ok.exf b hb).1, I'.ok.exfs b hb, .inl hb, fun x c e => (I'.ok.exf b hb).2 x c e, fun p hp => absurd (show p ∈ ([] : List (Addr × Obj)) ++ [] from hp) (by simp)⟩
  have lpA : codeAny (model X.prog X.w) X.A (.compLoop (.DictComp kx vx [⟨tg, iter, ifs, 0⟩] scope pos) 0 (.ref it) (.ref D) bEnv) (compPost (model X.prog X.w) X.A X.xe use Qf (.ref D) q3s.heap.objs.size) u4 := by
    refine compLoop_anyD (fun n s' => ∃ i H', Inv (X.blk q3s G3 scope bEnv pv) [] (wipe σ (own.map (·.2))) H' s' ∧ tq i s'.heap ∧ (∀ b ∈ pv, H' b = none) ∧ W i n H') ?_ mS ⟨0, G3, J4v, sA4, nPv, wS⟩
    rintro n u5 ⟨i, G5, J5v, sA5, n5, w5⟩
    rcases trn i n G5 w5 with ⟨ends, qq⟩ | ⟨goes, Nw, hNw, stp⟩
    · have td := Tw.done (X.blk q3s G3 scope bEnv pv) rfl rfl rfl hCa i [] u5 _ G5 (fun _ _ => False) J5v (still J5v n5) sA5 ends
      refine thnF td fun r u6 ⟨hr, J6v⟩ => ?_
      subst hr
      -- back in the def's context
      have J7v : Inv X pins σ G5 u6 := J3v.call' (ch := pv) J6v.os J6v.base J6v.hok J6v.bare fun b hb => ⟨(fq3 b hb).1.2.2.2.1, (fq3 b hb).1.2.1, (fq3 b hb).1.2.2.2.2.1, (fq3 b hb).1.2.2.2.2.2⟩
      have nC : G5 q3s.heap.objs.size = none := by
        have z : G5 bEnv.locals = none := J6v.free
        rw [cL] at z
        exact z
      obtain ⟨m, hn, _⟩ := J6v.loc
      have hn : u6.heap.Ns bEnv.locals m := hn
      rw [cL] at hn
      exact hEnd D q3s.heap.objs.size u6 m G5 J7v qq hn (J3v.fpOk (Nat.le_refl _) nC)
    · have ti := Tw.item (X.blk q3s G3 scope bEnv pv) rfl rfl rfl hCa i [] u5 _ G5 (fun _ _ => False) J5v (still J5v n5) sA5 goes
      refine thnF ti fun r u6 ⟨u, hr, h6⟩ => ?_
      subst hr
      refine thnF h6 fun _ u7 ⟨x, G7, J7v, r7, y7, sA7, n7⟩ => ?_
      have I7' := J7v.pinned (still J7v n7) (Tw.obj _ _ sA7)
      refine thnF (rTg.run _ u7 _ G7 x u _ I7' r7 (stp x G7 y7)) fun _ u8 ⟨σ8, G8, J8v, hw8, q8⟩ => ?_
      refine thnF (rTs.run _ u8 σ8 G8 _ J8v q8) fun b u9 ⟨G9, J9v, q9⟩ => ?_
      -- the turn's end
      have over : ∀ {s' : Shared} {H' : Hp}, Inv (X.blk q3s G3 scope bEnv pv) ([] ++ pinsAt pv u7.heap) σ8 H' s' → Nw H' → ∃ m, m < n ∧ ∃ i H', Inv (X.blk q3s G3 scope bEnv pv) [] (wipe σ (own.map (·.2))) H' s' ∧ tq i s'.heap ∧ (∀ b ∈ pv, H' b = none) ∧ W i m H' := fun {s' H'} I' nx => by
        obtain ⟨m', hm, w'⟩ := hNw H' nx
        have pin' : ∀ b ∈ pv, ∀ o, u7.heap.get? b = some o → s'.heap.get? b = some o ∧ H' b = none := fun b hb o e =>
          let z := I'.pin (b, o) (List.mem_append_right _ (List.mem_append_right _ (mem_pinsAt hb e)))
          ⟨z.1, z.2.1⟩
        have hl : (wipe σ (own.map (·.2))).length = σ8.length := by rw [← hw8, wipe_length]
        refine ⟨m', hm, i + 1, H', (I'.unpinned (pins := [])).weak hl (fun j v e => ?_), Tw.keep _ _ _ sA7 fun b hb o e => (pin' b hb o e).1, fun b hb => ?_, w'⟩
        · rw [← hw8] at e
          exact (wipe_some e).1
        · obtain ⟨o, e, _⟩ := Tw.obj _ _ sA7 b hb
          exact (pin' b hb o e).2
      cases b with
      | false =>
        simp only [Bool.false_eq_true, if_false] at q9 ⊢
        exact over J9v q9
      | true =>
        simp only [if_true] at q9 ⊢
        refine thnF (rKy.run _ u9 σ8 G9 _ J9v q9) fun z u10 ⟨yk, G10, J10v, r10, q10⟩ => ?_
        refine thnF (rVl.run _ u10 σ8 G10 _ J10v q10) fun z2 u11 ⟨yv, G11, J11v, r11, put⟩ => ?_
        exact dn_set (X := X.blk q3s G3 scope bEnv pv) (A := X.A) hu J11v r10 r11 put fun u12 G12 J12v nw => over J12v nw
  exact codeAny_compStart_dict lpA (Tw.self X.A 0 _ _ _ sA4 lpA)
/-- as a value -/
theorem pe_dcN {kx vx tg iter : Expr} {ifs : List Expr} {scope : Scope} {own : List (Str × Nat)} {pos : Pos} {wi : TI} {g : TG} {tt : TT} {tk tv : TE} (hu : X.A.units + 8 < cLine) (hCa : X.calm = true) (hNd : X.N.Nodup) (hIt : PI X tg iter wi) (okB : BlkOk X.N X.env.scope scope own)
    (hTg : ∀ (s : Shared) (H : Hp) (C : Addr) (cl : List (Str × Addr)) (pv : List Addr), PG (X.blk s H scope (compEnvC scope cl C X.env) pv) tg g) (hTs : ∀ (s : Shared) (H : Hp) (C : Addr) (cl : List (Str × Addr)) (pv : List Addr), PTs (X.blk s H scope (compEnvC scope cl C X.env) pv) ifs tt)
    (hKy : ∀ (s : Shared) (H : Hp) (C : Addr) (cl : List (Str × Addr)) (pv : List Addr), PE (X.blk s H scope (compEnvC scope cl C X.env) pv) kx tk)
    (hVl : ∀ (s : Shared) (H : Hp) (C : Addr) (cl : List (Str × Addr)) (pv : List Addr), PE (X.blk s H scope (compEnvC scope cl C X.env) pv) vx tv) (hFo : ∀ x, foldedSetIterable iter X.env x = pure x := by intro _; rfl) :
    PE X (.DictComp kx vx [⟨tg, iter, ifs, 0⟩] scope pos) (tDcN X.prog X.w X.K wi g tt tk tv (own.map (·.2))) := by
  refine ⟨fun pins s σ H Q J0v hRd => ?_⟩
  rw [arm_eval_DictComp]
  refine dcN_core hu hCa hNd J0v hIt okB hTg hTs hKy hVl hFo hRd fun D C z m H' J' q hn fk => ⟨m, hn, fun hx sb => ?_⟩
  obtain ⟨a0, a1, a2, a3, a4, a5⟩ := fk
  exact ⟨.ref D, H', J'.turned (t' := z.toks) (fun c o hb e => (sb.2 c hb).trans e) a0 a1 a3 a4 a5, rfl, q⟩
/-- d[k] = v -/
def sPutN (P : Program) (w : World) (K : PySem.W.Frag) (td ty tv : TE) : TS := fun D σ H => tv σ H fun v H1 => td σ H1 fun x H2 => ty σ H2 fun y H3 => ∃ a, x = .ref a ∧ PutDn P w K H3 a y v fun H4 => D.nx σ H4
theorem ps_putN {o i value : Expr} {pos pos' : Pos} {td ty tv : TE} (hu : X.A.units + 9 < cLine) (ho : PE X o td) (hi : PE X i ty) (hv : PE X value tv) (hs : swapsWith value (some (.Subscript o i pos')) pos.line X.env = pure false) :
    PS X (.Assign [.Subscript o i pos'] value pos) (sPutN X.prog X.w X.K td ty tv) := by
  refine ⟨fun pins s σ H D I h => ?_⟩
  refine wpAny_Assign_Subscript (thn (hv.run pins s σ H _ I h) fun r t1 ⟨v, G1, J1, rv, q1⟩ => thn (ho.run pins t1 σ G1 _ J1 q1) fun u t2 ⟨x, G2, J2, rx, q2⟩ => thn (hi.run pins t2 σ G2 _ J2 q2) fun iv t3 ⟨y, G3, J3, ry, a, ex, put⟩ => ?_) hs
  subst ex
  cases rx
  exact dn_setItem hu J3 ry rv put fun t4 G4 J4 nx => ⟨σ, G4, J4, nx⟩
/-- {} -/
def tNewN (P : Program) (w : World) : TE := fun _ H Q => ∀ p, H p = none → Q (.ref p) (upd H p (DnO P w p []))
theorem pe_newN {pos : Pos} : PE X (.Dict [] [] pos) (tNewN X.prog X.w) := ⟨fun pins s σ H Q I h =>
  wpAny_Dict_empty ⟨.ref s.heap.objs.size, _, I.laid (a := s.heap.objs.size) (o := DnO X.prog X.w s.heap.objs.size []) (t' := s.toks) (fun _ _ q => Heap.get?_push_of_some _ q) (Nat.le_refl _) (dn_empty s.heap I.big), rfl, h _ (I.hok.fresh (Nat.le_refl _))⟩⟩
/-- len(d) -/
theorem call_lenDn : CallR X (.builtin "len") (fun xs H Q => ∃ (a : Addr) (kvs : List (NestedKey × V)), xs = [.ref a] ∧ DnAt X.prog X.w X.K H a kvs ∧ Q (.int kvs.length) H) := by
  rintro ps s σ H xs us Q I r ⟨a, kvs, rfl, ⟨⟨es, e, ek, rfl⟩, l⟩, q⟩
  obtain ⟨u, rfl, ru⟩ := vals1 r
  cases ru
  obtain ⟨hs, ys, pr, dk⟩ := dn_of I e ek
  have el : es.length = ys.length := Paired.length pr
  rw [vals_len] at q l
  refine call_len_dictH hs dk ?_ ⟨.int (es.length : Int), H, I.tok _, ⟨_, by rw [el]⟩, q⟩
  rw [sizeLine_eq] at l
  omega
end
end Dn
set_option Elab.async false
set_option linter.all false
set_option maxRecDepth 100000
set_option maxHeartbeats 4000000
/-! facts, atoms, rules, fillings: what they are in memory, and their mathematics -/
namespace Cq
open PySem PySem.Spec PyProof.Rows L2 Gx Lw Sn Dn Wq
abbrev Fact := Str × List Str
abbrev Atom := Str × List Nat
abbrev RuleT := Atom × List Atom
def ak (a : Atom) : NestedKey := .tup [.text a.1, .tup (a.2.map fun n : Nat => .num (n : Int))]
def sk (f : List Str) : NestedKey := .tup (f.map .text)
section
variable {K : PySem.W.Frag} {H : Hp}
theorem nums_inv : ∀ {l : List Nat} {xs : List V}, NkA K H (l.map fun n : Nat => NestedKey.num (n : Int)) xs → xs = nI l
  | [], _, h => by unfold NkA at h; exact h
  | n :: l, _, h => by
    unfold NkA at h
    obtain ⟨y, r, rfl, h1, h2⟩ := h
    unfold NkV at h1
    rw [h1, nums_inv h2]
    rfl
theorem nkA_nums : ∀ l : List Nat, NkA K H (l.map fun n : Nat => NestedKey.num (n : Int)) (nI l)
  | [] => nkA_nil
  | _ :: l => nkA_cons nk_num (nkA_nums l)
theorem ak_inv {a : Atom} {v : V} (h : NkV K H (ak a) v) : ∃ t b, v = .ref t ∧ SqT K H t [.str a.1, .ref b] ∧ SqT K H b (nI a.2) := by
  obtain ⟨t, xs, rfl, hs, ha⟩ := nk_tup_inv h
  unfold NkA at ha
  obtain ⟨x, q, rfl, h1, h2⟩ := ha
  unfold NkA at h2
  obtain ⟨y, z, rfl, h3, h4⟩ := h2
  unfold NkA at h4
  unfold NkV at h1
  subst h1 h4
  obtain ⟨b, ys, rfl, hb, hy⟩ := nk_tup_inv h3
  rw [nums_inv hy] at hb
  exact ⟨t, b, rfl, hs, hb⟩
theorem ak_mk {a : Atom} {t b : Addr} (ht : H t = some (.tup [.str a.1, .ref b])) (hb : H b = some (.tup (nI a.2))) : NkV K H (ak a) (.ref t) :=
  nk_tup ht (nkA_cons nk_text (nkA_cons (nk_tup hb (nkA_nums _)) nkA_nil))
theorem sk_inv {f : List Str} {v : V} (h : NkV K H (sk f) v) : ∃ b, v = .ref b ∧ SqT K H b (f.map V.str) := by
  obtain ⟨b, xs, rfl, h1, h2⟩ := nk_tup_inv h
  rw [nkA_texts_inv h2] at h1
  exact ⟨b, rfl, h1⟩
theorem sk_mk {f : List Str} {t : Addr} (ht : H t = some (.tup (f.map V.str))) : NkV K H (sk f) (.ref t) := nk_tup ht (nkA_texts f)
theorem fk_mk {f : Fact} {t b : Addr} (ht : H t = some (.tup [.str f.1, .ref b])) (hb : H b = some (.tup (f.2.map V.str))) : NkV K H (fk f) (.ref t) :=
  nk_tup ht (nkA_cons nk_text (nkA_cons (nk_tup hb (nkA_texts _)) nkA_nil))
theorem fk_ref {f : Fact} {v : V} (h : NkV K H (fk f) v) : ∃ t, v = .ref t := by
  obtain ⟨t, _, e, _⟩ := fk_inv h
  exact ⟨t, e⟩
end
/-- a rule: a tuple of its head and the list of its atoms -/
def RuleV (K : PySem.W.Frag) (H : Hp) (r : RuleT) (v : V) : Prop := ∃ t hv q ws, v = .ref t ∧ H t = some (.tup [hv, .ref q]) ∧ NkV K H (ak r.1) hv ∧ H q = some (.lst ws) ∧ NkA K H (r.2.map ak) ws
inductive RuleA (K : PySem.W.Frag) (H : Hp) : List RuleT → List V → Prop
  | nil : RuleA K H [] []
  | cons {r : RuleT} {v : V} {rs : List RuleT} {vs : List V} : RuleV K H r v → RuleA K H rs vs → RuleA K H (r :: rs) (v :: vs)
/-- .. and its length -/
def StepV (K : PySem.W.Frag) (H : Hp) (r : RuleT) (n : Nat) (v : V) : Prop := ∃ t hv q ws, v = .ref t ∧ H t = some (.tup [hv, .ref q, .int (n : Int)]) ∧ NkV K H (ak r.1) hv ∧ H q = some (.lst ws) ∧ NkA K H (r.2.map ak) ws
inductive StepA (K : PySem.W.Frag) (H : Hp) (len : RuleT → Nat) : List RuleT → List V → Prop
  | nil : StepA K H len [] []
  | cons {r : RuleT} {v : V} {rs : List RuleT} {vs : List V} : StepV K H r (len r) v → StepA K H len rs vs → StepA K H len (r :: rs) (v :: vs)
section
variable {K : PySem.W.Frag} {H H' : Hp}
/-- lists but one, and tuples, stay -/
structure Lk (H H' : Hp) : Prop where
  tk : Tk H H'
  l : ∀ a xs, H a = some (.lst xs) → H' a = some (.lst xs)
theorem Lk.of_xt (x : Xt H H') : Lk H H' := ⟨.of_xt x, fun _ _ h => x.lst h⟩
theorem RuleV.lk (x : Lk H H') {r : RuleT} {v : V} (h : RuleV K H r v) : RuleV K H' r v := by
  obtain ⟨t, hv, q, ws, e, h1, h2, h3, h4⟩ := h
  exact ⟨t, hv, q, ws, e, x.tk.t _ _ h1, nkV_tk x.tk _ _ h2, x.l _ _ h3, nkA_tk x.tk _ _ h4⟩
theorem RuleA.lk (x : Lk H H') : ∀ {rs : List RuleT} {vs : List V}, RuleA K H rs vs → RuleA K H' rs vs
  | _, _, .nil => .nil
  | _, _, .cons h1 h2 => .cons (h1.lk x) (h2.lk x)
theorem RuleA.xt (x : Xt H H') {rs : List RuleT} {vs : List V} (h : RuleA K H rs vs) : RuleA K H' rs vs := h.lk (.of_xt x)
theorem RuleA.len : ∀ {rs : List RuleT} {vs : List V}, RuleA K H rs vs → vs.length = rs.length
  | _, _, .nil => rfl
  | _, _, .cons _ h => by rw [List.length_cons, List.length_cons, h.len]
theorem RuleA.at : ∀ {rs : List RuleT} {vs : List V}, RuleA K H rs vs → ∀ {i : Nat} {v : V}, vs[i]? = some v → ∃ r, rs[i]? = some r ∧ RuleV K H r v
  | _, _, .nil, i, v, e => by cases e
  | _, _, .cons h1 h2, 0, v, e => by cases e; exact ⟨_, rfl, h1⟩
  | _, _, .cons h1 h2, i + 1, v, e => h2.at (i := i) e
theorem RuleA.app : ∀ {rs : List RuleT} {vs : List V} {qs : List RuleT} {us : List V}, RuleA K H rs vs → RuleA K H qs us → RuleA K H (rs ++ qs) (vs ++ us)
  | _, _, _, _, .nil, h => h
  | _, _, _, _, .cons h1 h2, h => .cons h1 (h2.app h)
theorem StepV.lk (x : Lk H H') {r : RuleT} {n : Nat} {v : V} (h : StepV K H r n v) : StepV K H' r n v := by
  obtain ⟨t, hv, q, ws, e, h1, h2, h3, h4⟩ := h
  exact ⟨t, hv, q, ws, e, x.tk.t _ _ h1, nkV_tk x.tk _ _ h2, x.l _ _ h3, nkA_tk x.tk _ _ h4⟩
theorem StepA.lk {len : RuleT → Nat} (x : Lk H H') : ∀ {rs : List RuleT} {vs : List V}, StepA K H len rs vs → StepA K H' len rs vs
  | _, _, .nil => .nil
  | _, _, .cons h1 h2 => .cons (h1.lk x) (h2.lk x)
theorem StepA.len {ln : RuleT → Nat} : ∀ {rs : List RuleT} {vs : List V}, StepA K H ln rs vs → vs.length = rs.length
  | _, _, .nil => rfl
  | _, _, .cons _ h => by rw [List.length_cons, List.length_cons, h.len]
theorem StepA.at {ln : RuleT → Nat} : ∀ {rs : List RuleT} {vs : List V}, StepA K H ln rs vs → ∀ {i : Nat} {v : V}, vs[i]? = some v → ∃ r, rs[i]? = some r ∧ StepV K H r (ln r) v
  | _, _, .nil, i, v, e => by cases e
  | _, _, .cons h1 h2, 0, v, e => by cases e; exact ⟨_, rfl, h1⟩
  | _, _, .cons h1 h2, i + 1, v, e => h2.at (i := i) e
theorem StepA.app {ln : RuleT → Nat} : ∀ {rs : List RuleT} {vs : List V} {qs : List RuleT} {us : List V}, StepA K H ln rs vs → StepA K H ln qs us → StepA K H ln (rs ++ qs) (vs ++ us)
  | _, _, _, _, .nil, h => h
  | _, _, _, _, .cons h1 h2, h => .cons h1 (h2.app h)
end

/-! ### tables of facts -/
def trF (S : List Fact) : List (NestedKey × V) := S.map fun f => (fk f, V.bl true)
def addF (S : List Fact) (f : Fact) : List Fact := if f ∈ S then S else S ++ [f]
def ddF (l : List Fact) : List Fact := l.foldl addF []
theorem trF_len (S : List Fact) : (trF S).length = S.length := List.length_map ..
theorem any_trF (S : List Fact) (f : Fact) : ((trF S).any fun kv => decide (kv.1 = fk f)) = decide (f ∈ S) := by
  rw [Bool.eq_iff_iff, List.any_eq_true, decide_eq_true_iff]
  constructor
  · rintro ⟨p, hp, h⟩
    obtain ⟨z, hz, rfl⟩ := List.mem_map.mp hp
    have h2 : fk z = fk f := of_decide_eq_true h
    rwa [← fk_inj h2]
  · exact fun h => ⟨_, List.mem_map.mpr ⟨f, h, rfl⟩, decide_eq_true rfl⟩
theorem val_trF (S : List Fact) (f : Fact) : (valV (trF S) (fk f)).isSome = decide (f ∈ S) := by rw [← valV_any, any_trF]
theorem put_trF (S : List Fact) (f : Fact) : putK (trF S) (fk f) (V.bl true) = trF (addF S f) := by
  unfold putK addF
  rw [any_trF]
  by_cases h : f ∈ S
  · rw [if_pos (decide_eq_true h), if_pos h]
    unfold trF
    rw [List.map_map]
    refine List.map_congr_left fun z _ => ?_
    show (if fk z = fk f then _ else _) = _
    split <;> rfl
  · rw [if_neg (by simpa using h), if_neg h]
    unfold trF
    rw [List.map_append]
    rfl
theorem mem_addF {S : List Fact} {f g : Fact} : g ∈ addF S f ↔ g ∈ S ∨ g = f := by
  unfold addF
  by_cases h : f ∈ S
  · rw [if_pos h]
    exact ⟨.inl, fun z => z.elim id fun e => e ▸ h⟩
  · rw [if_neg h, List.mem_append, List.mem_singleton]
theorem addF_len (S : List Fact) (f : Fact) : (addF S f).length ≤ S.length + 1 := by
  unfold addF
  split <;> simp
theorem ddF_snoc (l : List Fact) (f : Fact) : ddF (l ++ [f]) = addF (ddF l) f := by
  unfold ddF
  rw [List.foldl_append]
  rfl
theorem mem_ddF {g : Fact} (l : List Fact) : g ∈ ddF l ↔ g ∈ l := by
  induction l using snoc_rec with
  | h0 => rfl
  | h1 l f ih => rw [ddF_snoc, mem_addF, ih, List.mem_append, List.mem_singleton]
theorem ddF_len (l : List Fact) : (ddF l).length ≤ l.length := by
  induction l using snoc_rec with
  | h0 => exact Nat.le_refl _
  | h1 l f ih =>
    rw [ddF_snoc, List.length_append]
    exact Nat.le_trans (addF_len _ _) (by simpa using ih)

/-! ### fillings -/
def noS : Str := Str.ofString ""
def factOf (a : Atom) (f : List Str) : Fact := (a.1, a.2.map fun i => f.getD i noS)
/-- the greatest of some names -/
def mx (l : List Nat) : Nat := l.foldl max 0
theorem mx_le {l : List Nat} : ∀ {k : Nat}, l.foldl max k = max k (mx l) := by
  induction l with
  | nil => intro k; simp [mx]
  | cons x l ih =>
    intro k
    unfold mx
    rw [List.foldl_cons, List.foldl_cons, ih, ih, ← Nat.max_assoc, Nat.zero_max]
theorem le_mx {l : List Nat} {x : Nat} (h : x ∈ l) : x ≤ mx l := by
  induction l with
  | nil => cases h
  | cons y l ih =>
    unfold mx
    rw [List.foldl_cons, mx_le]
    rcases List.mem_cons.mp h with rfl | h
    · omega
    · have := ih h; omega
theorem mx_mem {l : List Nat} (h : l ≠ []) : mx l ∈ l := by
  induction l with
  | nil => exact absurd rfl h
  | cons y l ih =>
    unfold mx
    rw [List.foldl_cons, mx_le, Nat.zero_max]
    by_cases hl : l = []
    · subst hl; simp [mx]
    · have := ih hl
      rcases Nat.le_total y (mx l) with e | e
      · rw [Nat.max_eq_right e]; exact List.mem_cons_of_mem _ this
      · rw [Nat.max_eq_left e]; exact List.mem_cons_self ..
theorem mx_int (n : Nat) (l : List Nat) : (l.map fun n : Nat => (n : Int)).foldl max (n : Int) = ((mx (n :: l) : Nat) : Int) := by
  unfold mx
  rw [List.foldl_cons, Nat.zero_max]
  induction l generalizing n with
  | nil => rfl
  | cons x l ih =>
    rw [List.map_cons, List.foldl_cons, List.foldl_cons, ← ih]
    congr 1
    omega
theorem factOf_app {a : Atom} {f : List Str} (c : List Str) (h : ∀ i ∈ a.2, i < f.length) : factOf a (f ++ c) = factOf a f := by
  unfold factOf
  congr 1
  refine List.map_congr_left fun i hi => ?_
  rw [List.getD_eq_getElem?_getD, List.getD_eq_getElem?_getD, List.getElem?_append_left (h i hi)]
/-- one place more -/
def grow (rows : List (List Str)) (cs : List Str) : List (List Str) := rows.flatMap fun r => cs.map fun c => r ++ [c]
def prodN (cs : List Str) : Nat → List (List Str)
  | 0 => [[]]
  | n + 1 => grow (prodN cs n) cs
def prodC (css : List (List Str)) : List (List Str) := css.foldl grow [[]]
theorem prodC_snoc (css : List (List Str)) (cs : List Str) : prodC (css ++ [cs]) = grow (prodC css) cs := by
  unfold prodC
  rw [List.foldl_append]
  rfl
theorem grow_len {rows : List (List Str)} {cs : List Str} {n : Nat} (h : ∀ r ∈ rows, r.length = n) : ∀ r ∈ grow rows cs, r.length = n + 1 := fun r hr => by
  obtain ⟨q, hq, hr⟩ := List.mem_flatMap.mp hr
  obtain ⟨c, _, rfl⟩ := List.mem_map.mp hr
  rw [List.length_append, h q hq]
  rfl
theorem prodC_len (css : List (List Str)) : ∀ r ∈ prodC css, r.length = css.length := by
  induction css using snoc_rec with
  | h0 => intro r hr; rw [List.mem_singleton.mp hr]; rfl
  | h1 css cs ih =>
    rw [prodC_snoc, List.length_append]
    exact grow_len ih
theorem prodN_len (cs : List Str) : ∀ n, ∀ r ∈ prodN cs n, r.length = n
  | 0, r, hr => by rw [List.mem_singleton.mp hr]; rfl
  | n + 1, r, hr => grow_len (prodN_len cs n) r hr
theorem grow_num (rows : List (List Str)) (cs : List Str) : (grow rows cs).length = rows.length * cs.length := by
  unfold grow
  induction rows with
  | nil => simp
  | cons r rows ih => rw [List.flatMap_cons, List.length_append, ih, List.length_map, List.length_cons, Nat.succ_mul]; omega
theorem prodN_num (cs : List Str) : ∀ n, (prodN cs n).length = cs.length ^ n
  | 0 => rfl
  | n + 1 => by
    show (grow (prodN cs n) cs).length = _
    rw [grow_num, prodN_num cs n, Nat.pow_succ]
theorem grow_mem {rows : List (List Str)} {cs : List Str} {P : Str → Prop} (h : ∀ r ∈ rows, ∀ x ∈ r, P x) (hc : ∀ c ∈ cs, P c) : ∀ r ∈ grow rows cs, ∀ x ∈ r, P x := fun r hr x hx => by
  obtain ⟨q, hq, hr⟩ := List.mem_flatMap.mp hr
  obtain ⟨c, hcc, rfl⟩ := List.mem_map.mp hr
  rcases List.mem_append.mp hx with hx | hx
  · exact h q hq x hx
  · rw [List.mem_singleton.mp hx]; exact hc c hcc
theorem prodN_mem (cs : List Str) : ∀ n, ∀ r ∈ prodN cs n, ∀ x ∈ r, x ∈ cs
  | 0, r, hr, x, hx => by rw [List.mem_singleton.mp hr] at hx; cases hx
  | n + 1, r, hr, x, hx => grow_mem (prodN_mem cs n) (fun _ h => h) r hr x hx
/-- the fillings of the first n places that the atoms allow -/
def ripe (atoms : List Atom) (i : Nat) : List Atom := atoms.filter fun a => decide (mx a.2 = i)
def there (S : List Fact) (atoms : List Atom) (f : List Str) : Bool := atoms.all fun a => decide (factOf a f ∈ S)
def fillN (css : List (List Str)) (atoms : List Atom) (S : List Fact) : Nat → List (List Str)
  | 0 => [[]]
  | n + 1 => (grow (fillN css atoms S n) (css.getD n [])).filter (there S (ripe atoms n))
def fillW (css : List (List Str)) (atoms : List Atom) (S : List Fact) : List (List Str) := fillN css atoms S css.length
theorem fillN_len (css : List (List Str)) (atoms : List Atom) (S : List Fact) : ∀ n, ∀ r ∈ fillN css atoms S n, r.length = n
  | 0, r, hr => by rw [List.mem_singleton.mp hr]; rfl
  | n + 1, r, hr => grow_len (fillN_len css atoms S n) r (List.mem_filter.mp hr).1
theorem filter_grow {rows : List (List Str)} {cs : List Str} {p : List Str → Bool} (h : ∀ r ∈ rows, ∀ c, p (r ++ [c]) = p r) : (grow rows cs).filter p = grow (rows.filter p) cs := by
  unfold grow
  induction rows with
  | nil => rfl
  | cons r rows ih =>
    have h1 : (cs.map fun c => r ++ [c]).filter p = if p r = true then cs.map fun c => r ++ [c] else [] := by
      by_cases e : p r = true
      · rw [if_pos e]
        refine List.filter_eq_self.mpr fun z hz => ?_
        obtain ⟨c, _, rfl⟩ := List.mem_map.mp hz
        rw [h r (List.mem_cons_self ..) c, e]
      · rw [if_neg e]
        refine List.filter_eq_nil_iff.mpr fun z hz => ?_
        obtain ⟨c, _, rfl⟩ := List.mem_map.mp hz
        rw [h r (List.mem_cons_self ..) c]
        exact e
    rw [List.flatMap_cons, List.filter_append, h1, ih fun q hq => h q (List.mem_cons_of_mem _ hq), List.filter_cons]
    by_cases e : p r = true
    · rw [if_pos e, if_pos e, List.flatMap_cons]
    · rw [if_neg e, if_neg e]
      rfl
theorem fillN_eq (css : List (List Str)) (atoms : List Atom) (S : List Fact) : ∀ n, n ≤ css.length → fillN css atoms S n = (prodC (css.take n)).filter (there S (atoms.filter fun a => decide (mx a.2 < n)))
  | 0, _ => by
    have e : (atoms.filter fun a => decide (mx a.2 < 0)) = [] := List.filter_eq_nil_iff.mpr fun a _ => by simp
    rw [e]
    rfl
  | n + 1, h => by
    have hn : n < css.length := h
    show (grow (fillN css atoms S n) (css.getD n [])).filter (there S (ripe atoms n)) = _
    have et : css.take (n + 1) = css.take n ++ [css.getD n []] := by
      rw [List.take_add_one, List.getD_eq_getElem?_getD, List.getElem?_eq_getElem hn]
      rfl
    have stay : ∀ r ∈ prodC (css.take n), ∀ c, there S (atoms.filter fun a => decide (mx a.2 < n)) (r ++ [c]) = there S (atoms.filter fun a => decide (mx a.2 < n)) r := fun r hr c => by
      have hl := prodC_len _ r hr
      rw [List.length_take, Nat.min_eq_left (by omega)] at hl
      unfold there
      rw [Bool.eq_iff_iff, List.all_eq_true, List.all_eq_true]
      have q : ∀ a ∈ atoms.filter fun a => decide (mx a.2 < n), factOf a (r ++ [c]) = factOf a r := fun a ha => factOf_app [c] fun i hi => by
        have h1 := le_mx hi
        have h2 : mx a.2 < n := of_decide_eq_true (List.mem_filter.mp ha).2
        omega
      exact ⟨fun z a ha => by rw [← q a ha]; exact z a ha, fun z a ha => by rw [q a ha]; exact z a ha⟩
    rw [fillN_eq css atoms S n (by omega), ← filter_grow stay, et, prodC_snoc, List.filter_filter]
    refine List.filter_congr fun r _ => ?_
    unfold there ripe
    rw [Bool.eq_iff_iff, Bool.and_eq_true, List.all_eq_true, List.all_eq_true, List.all_eq_true]
    constructor
    · rintro ⟨z1, z2⟩ a ha
      obtain ⟨h1, h2⟩ := List.mem_filter.mp ha
      have h2 : mx a.2 < n + 1 := of_decide_eq_true h2
      by_cases h3 : mx a.2 = n
      · exact z1 a (List.mem_filter.mpr ⟨h1, decide_eq_true h3⟩)
      · exact z2 a (List.mem_filter.mpr ⟨h1, decide_eq_true (by omega)⟩)
    · intro z
      refine ⟨fun a ha => ?_, fun a ha => ?_⟩
      · obtain ⟨h1, h2⟩ := List.mem_filter.mp ha
        have h2 : mx a.2 = n := of_decide_eq_true h2
        exact z a (List.mem_filter.mpr ⟨h1, decide_eq_true (by omega)⟩)
      · obtain ⟨h1, h2⟩ := List.mem_filter.mp ha
        have h2 : mx a.2 < n := of_decide_eq_true h2
        exact z a (List.mem_filter.mpr ⟨h1, decide_eq_true (by omega)⟩)
theorem fillW_eq {css : List (List Str)} {atoms : List Atom} (S : List Fact) (h : ∀ a ∈ atoms, mx a.2 < css.length) : fillW css atoms S = (prodC css).filter (there S atoms) := by
  unfold fillW
  rw [fillN_eq _ _ _ _ (Nat.le_refl _), List.take_length, List.filter_eq_self.mpr fun a ha => decide_eq_true (h a ha)]
end Cq
set_option Elab.async false
set_option linter.all false
set_option maxRecDepth 100000
set_option maxHeartbeats 4000000
/-! promises of the steps of rules -/
namespace Cq
open PySem PySem.Spec PyProof.Rows L2 Gx Lw Sn Dn Wq
/-- a table of facts -/
def Tb (P : Program) (w : World) (K : PySem.W.Frag) (H : Hp) (d : Addr) (S : List Fact) : Prop := DnAt P w K H d (trF S)
def spFact (K : PySem.W.Frag) : Sp := fun vs H Q _ => ∃ (v u : V) (at_ : Atom) (fl : List Str), vs = [v, u] ∧ NkV K H (ak at_) v ∧ NkV K H (sk fl) u ∧ (∀ i ∈ at_.2, i < fl.length) ∧ at_.2.length ≤ 1000 ∧ ∀ H1 y, Xt H H1 → NkV K H1 (fk (factOf at_ fl)) y → Q y H1
/-- atoms that a filling of n names fills -/
def Fits (n : Nat) (atoms : List Atom) : Prop := ∀ a ∈ atoms, (∀ i ∈ a.2, i < n) ∧ a.2.length ≤ 1000
def spThere (P : Program) (w : World) (K : PySem.W.Frag) (tab : Addr) : Sp := fun vs H Q _ => ∃ (q d : Addr) (u : V) (ws : List V) (atoms : List Atom) (fl : List Str) (S : List Fact), vs = [.ref q, u, .ref d] ∧ SqL K H q ws ∧ NkA K H (atoms.map ak) ws ∧ NkV K H (sk fl) u ∧ Tb P w K H d S ∧ Fits fl.length atoms ∧
  GxR.TabG H tab ∧ ∀ H1, Xt H H1 → Q (.bl (there S atoms fl)) H1
def spTable (P : Program) (w : World) (K : PySem.W.Frag) : Sp := fun vs H Q _ => ∃ (q : Addr) (ws : List V) (fs : List Fact), vs = [.ref q] ∧ SqL K H q ws ∧ NkA K H (fs.map fk) ws ∧ fs.length ≤ 100000 ∧ ∀ H1 d, Xt H H1 → H d = none → Tb P w K H1 d (ddF fs) → Q (.ref d) H1
/-- lists of words, that may be one and the same -/
inductive WdA (K : PySem.W.Frag) (H : Hp) : List (List Str) → List V → Prop
  | nil : WdA K H [] []
  | cons {cs : List Str} {a : Addr} {css : List (List Str)} {vs : List V} : SqL K H a (cs.map V.str) → WdA K H css vs → WdA K H (cs :: css) (.ref a :: vs)
theorem WdA.xt {K : PySem.W.Frag} {H H' : Hp} (x : Xt H H') : ∀ {css : List (List Str)} {vs : List V}, WdA K H css vs → WdA K H' css vs
  | _, _, .nil => .nil
  | _, _, .cons h1 h2 => .cons (x.sqL h1) (h2.xt x)
theorem WdA.len {K : PySem.W.Frag} {H : Hp} : ∀ {css : List (List Str)} {vs : List V}, WdA K H css vs → vs.length = css.length
  | _, _, .nil => rfl
  | _, _, .cons _ h => by rw [List.length_cons, List.length_cons, h.len]
theorem WdA.at {K : PySem.W.Frag} {H : Hp} : ∀ {css : List (List Str)} {vs : List V}, WdA K H css vs → ∀ {i : Nat} {v : V}, vs[i]? = some v → ∃ cs a, css[i]? = some cs ∧ v = .ref a ∧ SqL K H a (cs.map V.str)
  | _, _, .nil, i, v, e => by cases e
  | _, _, .cons h1 h2, 0, v, e => by cases e; exact ⟨_, _, rfl, rfl, h1⟩
  | _, _, .cons h1 h2, i + 1, v, e => h2.at (i := i) e
theorem WdA.snoc {K : PySem.W.Frag} {H : Hp} {cs : List Str} {a : Addr} (h : SqL K H a (cs.map V.str)) : ∀ {css : List (List Str)} {vs : List V}, WdA K H css vs → WdA K H (css ++ [cs]) (vs ++ [.ref a])
  | _, _, .nil => .cons h .nil
  | _, _, .cons h1 h2 => .cons h1 (h2.snoc h)
/-- atoms with names, below n -/
def Atoms (n : Nat) (atoms : List Atom) : Prop := ∀ a ∈ atoms, a.2 ≠ [] ∧ (∀ i ∈ a.2, i < n) ∧ a.2.length ≤ 1000
def spWithin (P : Program) (w : World) (K : PySem.W.Frag) (tab : Addr) : Sp := fun vs H Q _ => ∃ (c q d : Addr) (cv ws : List V) (css : List (List Str)) (atoms : List Atom) (S : List Fact), vs = [.ref c, .ref q, .ref d] ∧ SqL K H c cv ∧ WdA K H css cv ∧ SqL K H q ws ∧ NkA K H (atoms.map ak) ws ∧ Tb P w K H d S ∧
  Atoms css.length atoms ∧ atoms.length ≤ 1000 ∧ css.length ≤ 4 ∧ (∀ cs ∈ css, cs.length ≤ 7) ∧ GxR.TabG H tab ∧
  ∀ H1 l us, Xt H H1 → H l = none → H1 l = some (.lst us) → NkA K H1 ((fillW css atoms S).map sk) us → Q (.ref l) H1
/-- the choices for the places: those named have all constants, the others the first -/
def choices (cs : List Str) (named : List Nat) (n : Nat) : List (List Str) := (List.range n).map fun i => if i ∈ named then cs else cs.take 1
def names (r : RuleT) : List Nat := ((r.1 :: r.2).map (·.2)).flatten
def stepsOf (r : RuleT) (n : Nat) (cs : List Str) (S : List Fact) : List (List Str) := fillW (choices cs (names r) n) r.2 S
def RuleOk (n : Nat) (r : RuleT) : Prop := Atoms n r.2 ∧ (∀ i ∈ r.1.2, i < n) ∧ r.1.2.length ≤ 1000 ∧ r.2.length ≤ 1000
def spSteps (P : Program) (w : World) (K : PySem.W.Frag) (tab : Addr) : Sp := fun vs H Q _ => ∃ (v : V) (c d : Addr) (r : RuleT) (n : Nat) (cs : List Str) (S : List Fact), vs = [v, .ref c, .ref d] ∧ StepV K H r n v ∧ H c = some (.lst (cs.map V.str)) ∧ Tb P w K H d S ∧
  RuleOk n r ∧ n ≤ 4 ∧ cs.length ≤ 7 ∧ GxR.TabG H tab ∧
  ∀ H1 l us, Xt H H1 → H l = none → H1 l = some (.lst us) → NkA K H1 ((stepsOf r n cs S).map sk) us → Q (.ref l) H1
/-- what a step is in memory -/
def DoneV (K : PySem.W.Frag) (H : Hp) (x : Fact × Nat × List Str) (v : V) : Prop := ∃ t fv gv, v = .ref t ∧ H t = some (.tup [fv, .int (x.2.1 : Int), gv]) ∧ NkV K H (fk x.1) fv ∧ NkV K H (sk x.2.2) gv
def OptV (K : PySem.W.Frag) (H : Hp) (x : Option (Fact × Nat × List Str)) (v : V) : Prop := match x with
  | none => v = .non
  | some s => DoneV K H s v
/-- the first step that tells a new fact -/
def freshIn (ln : RuleT → Nat) (cs : List Str) (S : List Fact) : Nat → List RuleT → Option (Fact × Nat × List Str)
  | _, [] => none
  | i, r :: rs => match (stepsOf r (ln r) cs S).find? fun f => decide (factOf r.1 f ∉ S) with
    | some f => some (factOf r.1 f, i, f)
    | none => freshIn ln cs S (i + 1) rs
def spFresh (P : Program) (w : World) (K : PySem.W.Frag) (tab : Addr) : Sp := fun vs H Q _ => ∃ (p c d : Addr) (rv : List V) (rs : List RuleT) (ln : RuleT → Nat) (cs : List Str) (S : List Fact), vs = [.ref p, .ref c, .ref d] ∧ SqL K H p rv ∧ StepA K H ln rs rv ∧ H c = some (.lst (cs.map V.str)) ∧ Tb P w K H d S ∧
  (∀ r ∈ rs, RuleOk (ln r) r ∧ ln r ≤ 4) ∧ cs.length ≤ 7 ∧ rs.length ≤ 1000 ∧ GxR.TabG H tab ∧
  ∀ H1 y, Xt H H1 → OptV K H1 (freshIn ln cs S 0 rs) y → Q y H1
def wid (r : RuleT) : Nat := mx (r.2.map fun a => mx a.2) + 1
def spGreat (K : PySem.W.Frag) : Sp := fun vs H Q _ => ∃ (q : Addr) (ws : List V) (atoms : List Atom), vs = [.ref q] ∧ SqL K H q ws ∧ NkA K H (atoms.map ak) ws ∧ atoms ≠ [] ∧ (∀ a ∈ atoms, a.2 ≠ []) ∧ atoms.length ≤ 100000 ∧ ∀ H1, Xt H H1 → Q (.int ((mx (atoms.map fun a => mx a.2) : Nat) : Int)) H1
def spBack (K : PySem.W.Frag) : Sp := fun vs H Q _ => ∃ (p : Addr) (rv : List V) (rs : List RuleT), vs = [.ref p] ∧ SqL K H p rv ∧ RuleA K H rs rv ∧ rs.length ≤ 1000 ∧ (∀ r ∈ rs, r.2 ≠ [] ∧ (∀ a ∈ r.2, a.2 ≠ []) ∧ r.2.length ≤ 1000) ∧
  ∀ H1 l sv, Xt H H1 → H l = none → H1 l = some (.lst sv) → StepA K H1 wid rs sv → Q (.ref l) H1
theorem fk_dep (f : Fact) : (fk f).depth ≤ 8 := fk_depth f
theorem Tb.xt {P : Program} {w : World} {K : PySem.W.Frag} {H H' : Hp} {d : Addr} {S : List Fact} (x : Xt H H') (h : Tb P w K H d S) : Tb P w K H' d S := DnAt.xt x h
/-- fact in table -/
theorem rd_in {P : Program} {w : World} {K : PySem.W.Frag} {neg : Bool} {H : Hp} {Q : VK} {y : V} {d : Addr} {f : Fact} {S : List Fact} (hy : NkV K H (fk f) y) (h : Tb P w K H d S) (q : Q (.bl (if neg then !decide (f ∈ S) else decide (f ∈ S))) H) : rInDn P w K neg y (.ref d) H Q := by
  obtain ⟨t, rfl⟩ := fk_ref hy
  refine ⟨d, t, fk f, trF S, rfl, rfl, hy, fk_depth f, h, ?_⟩
  rw [val_trF]
  exact q
theorem rd_put {P : Program} {w : World} {K : PySem.W.Frag} {H : Hp} {R : Hp → Prop} {y : V} {d : Addr} {f : Fact} {S : List Fact} (hy : NkV K H (fk f) y) (h : Tb P w K H d S) (hl : S.length ≤ 10000000)
    (q : ∀ o, Tb P w K (upd H d o) d (addF S f) → (∀ H0, Xt H0 H → H0 d = none → Xt H0 (upd H d o)) → Tk H (upd H d o) → R (upd H d o)) : PutDn P w K H d y (.bl true) R := by
  obtain ⟨t, rfl⟩ := fk_ref hy
  refine ⟨t, fk f, trF S, rfl, hy, fk_depth f, h, ?_, fun o h1 h2 h3 => q o (by rw [put_trF] at h1; exact h1) h2 h3⟩
  rw [trF_len]
  have : 10000001 ≤ sizeLine := by decide
  omega
end Cq
set_option Elab.async false
set_option linter.all false
set_option maxRecDepth 100000
set_option maxHeartbeats 4000000
/-! walks for the steps of rules -/
namespace Cq
open PySem PySem.Spec PyProof.Rows L2 Gx Lw Sn Dn Wq
section
variable {K : PySem.W.Frag} {g : TG} {tt : TT} {te : TE}
/-- a comprehension over a list, by a list beside it; its items are told by r, the list by A -/
theorem lcG_by {α : Type} {vs : List Nat} {σ : L2.St} {H1 : Hp} {D : Addr} {Qd : Hp → Prop} {a : Addr} {xs : List V} (ks : List α) (p : α → Bool) (r : α → Hp → V → Prop) (A : Hp → List α → List V → Prop) (hlen : xs.length = ks.length) (hl : SqL K H1 a xs) (hD : H1 D = none) (hz : ks.length ≤ sizeLine)
    (a0 : ∀ H, A H [] []) (aL : ∀ H l us, A H l us → us.length = l.length) (a1 : ∀ H H2 acc l k y, Xt H H2 → H2 D = some (.lst acc) → A H l acc → r k H2 y → A (upd H2 D (.lst (acc ++ [y]))) (l ++ [k]) (acc ++ [y])) (aX : ∀ H H2 l us, Xt H H2 → A H l us → A H2 l us)
    (hs : ∀ (i : Nat) v k, xs[i]? = some v → ks[i]? = some k → ∀ H' (Y : V → Hp → Prop) (N : Hp → Prop), Xt H1 H' → (∃ acc, H' D = some (.lst acc)) → (∀ H2 y, Xt H' H2 → p k = true → r k H2 y → Y y H2) → (∀ H2, Xt H' H2 → p k = false → N H2) →
      g v (wipe σ vs) H' fun σ2 H2 => wipe σ2 vs = wipe σ vs ∧ tt σ2 H2 fun b H3 => if b = true then te σ2 H3 Y else N H3)
    (hd : ∀ H' ys, Xt H1 H' → H' D = some (.lst ys) → A H' (ks.filter p) ys → Qd H') :
    ∃ W : Nat → Nat → Hp → Prop, (∃ m, W 0 m (upd H1 D (.lst []))) ∧ ∀ i m H, W i m H →
      ((Itl K a).stop i H ∧ Qd H) ∨ ((Itl K a).go i H ∧ ∃ Nx : Hp → Prop, (∀ H', Nx H' → ∃ m', m' < m ∧ W (i + 1) m' H') ∧ ∀ v H', (Itl K a).yld i H v H' → g v (wipe σ vs) H' fun σ2 H2 => wipe σ2 vs = wipe σ vs ∧ tt σ2 H2 fun b H3 =>
        if b = true then te σ2 H3 fun y H4 => ∃ acc, H4 D = some (.lst acc) ∧ acc.length < sizeLine ∧ Nx (upd H4 D (.lst (acc ++ [y]))) else Nx H3) := by
  refine walk_list (xs := xs) (fun i H' => Xt H1 H' ∧ ∃ ys, H' D = some (.lst ys) ∧ A H' ((ks.take i).filter p) ys) ⟨Xt.new hD, _, upd_same .., a0 _⟩ (fun i H' hp => hp.1.sqL hl) (fun i c H' hc hp => ?_) (fun H' hp => ?_)
  · obtain ⟨xt, ys, hp, hk⟩ := hp
    have hi : i < ks.length := by rw [← hlen]; exact (List.getElem?_eq_some_iff.mp hc).1
    have hki := List.getElem?_eq_getElem hi
    have e1 : ∀ b, p ks[i] = b → (ks.take (i + 1)).filter p = (ks.take i).filter p ++ (if b = true then [ks[i]] else []) := fun b hb => by
      rw [List.take_add_one, hki, List.filter_append]
      congr 1
      show [ks[i]].filter p = _
      rw [List.filter_cons, hb]
      rfl
    refine hs i c _ hc hki H' _ _ xt ⟨_, hp⟩ (fun H2 y x2 e er => ⟨_, x2.lst hp, ?_, (xt.trans x2).mut hD, _, upd_same .., ?_⟩) (fun H2 x2 e => ⟨xt.trans x2, ys, x2.lst hp, ?_⟩)
    · rw [aL _ _ _ hk]
      exact Nat.lt_of_le_of_lt (Nat.le_trans (List.length_filter_le ..) (by rw [List.length_take]; exact Nat.min_le_left ..)) (Nat.lt_of_lt_of_le hi hz)
    · rw [e1 _ e]
      exact a1 _ _ _ _ _ _ x2 (x2.lst hp) hk er
    · rw [e1 _ e]
      show A H2 (_ ++ []) ys
      rw [List.append_nil]
      exact aX _ _ _ _ x2 hk
  · obtain ⟨xt, ys, hp, hk⟩ := hp
    rw [hlen, List.take_length] at hk
    exact hd H' ys xt hp hk
/-- .. of keys -/
theorem lckf_by {α : Type} {vs : List Nat} {σ : L2.St} {H1 : Hp} {D : Addr} {Qd : Hp → Prop} {a : Addr} {xs : List V} (ks : List α) (p : α → Bool) (f : α → NestedKey) (hlen : xs.length = ks.length) (hl : SqL K H1 a xs) (hD : H1 D = none) (hz : ks.length ≤ sizeLine)
    (hs : ∀ (i : Nat) v k, xs[i]? = some v → ks[i]? = some k → ∀ H' (Y : V → Hp → Prop) (N : Hp → Prop), Xt H1 H' → (∀ H2 y, Xt H' H2 → p k = true → NkV K H2 (f k) y → Y y H2) → (∀ H2, Xt H' H2 → p k = false → N H2) →
      g v (wipe σ vs) H' fun σ2 H2 => wipe σ2 vs = wipe σ vs ∧ tt σ2 H2 fun b H3 => if b = true then te σ2 H3 Y else N H3)
    (hd : ∀ H' ys, Xt H1 H' → H' D = some (.lst ys) → NkA K H' ((ks.filter p).map f) ys → Qd H') :
    ∃ W : Nat → Nat → Hp → Prop, (∃ m, W 0 m (upd H1 D (.lst []))) ∧ ∀ i m H, W i m H →
      ((Itl K a).stop i H ∧ Qd H) ∨ ((Itl K a).go i H ∧ ∃ Nx : Hp → Prop, (∀ H', Nx H' → ∃ m', m' < m ∧ W (i + 1) m' H') ∧ ∀ v H', (Itl K a).yld i H v H' → g v (wipe σ vs) H' fun σ2 H2 => wipe σ2 vs = wipe σ vs ∧ tt σ2 H2 fun b H3 =>
        if b = true then te σ2 H3 fun y H4 => ∃ acc, H4 D = some (.lst acc) ∧ acc.length < sizeLine ∧ Nx (upd H4 D (.lst (acc ++ [y]))) else Nx H3) :=
  lcG_by ks p (fun k H y => NkV K H (f k) y) (fun H l us => NkA K H (l.map f) us) hlen hl hD hz (fun _ => nkA_nil) (fun _ l us h => by rw [nkA_len h, List.length_map]) (fun H H2 acc l k y x e h hy => by rw [List.map_append]; exact nkA_add x e h hy) (fun H H2 l us x h => nkA_tk (.of_xt x) _ _ h) (fun i v k a b H' Y N x _ => hs i v k a b H' Y N x) hd
/-- for .. in enumerate(list) -/
theorem for_enum {a : Addr} {xs : List V} {g : TG} {tb : TS} {D : Ends} {σ : L2.St} {H : Hp} (Pv : Nat → L2.St → Hp → Prop) (h0 : Pv 0 σ H) (hl : ∀ i σ H, Pv i σ H → SqL K H a xs)
    (hs : ∀ i x T σ H, xs[i]? = some x → Pv i σ H → H T = none → g (.ref T) σ (upd H T (.tup [.int (i : Nat), x])) fun σ2 H2 => tb { D with nx := Pv (i + 1), ct := Pv (i + 1), bk := D.nx } σ2 H2) (hd : ∀ σ H, Pv xs.length σ H → D.nx σ H) :
    ∃ W : Nat → Nat → L2.St → Hp → Prop, (∃ m, W 0 m σ H) ∧ ∀ i m σ H, W i m σ H →
      ((Ite K a).stop i H ∧ D.nx σ H) ∨ ((Ite K a).go i H ∧ ∃ N : L2.St → Hp → Prop, (∀ σ' H', N σ' H' → ∃ m', m' < m ∧ W (i + 1) m' σ' H') ∧ ∀ x H', (Ite K a).yld i H x H' → g x σ H' fun σ2 H2 => tb { D with nx := N, ct := N, bk := D.nx } σ2 H2) := by
  refine ⟨fun i m σ H => m = xs.length - i ∧ i ≤ xs.length ∧ Pv i σ H, ⟨xs.length, by simp, Nat.zero_le _, h0⟩, ?_⟩
  rintro i m σ H ⟨rfl, hi, p⟩
  have q := hl i σ H p
  by_cases hlt : i < xs.length
  · refine .inr ⟨⟨xs, xs[i], q, by simp [hlt]⟩, Pv (i + 1), fun σ' H' p' => ⟨xs.length - (i + 1), by omega, rfl, hlt, p'⟩, fun x H' y => ?_⟩
    obtain ⟨T, v, e1, e2, e3, y⟩ := y
    subst e1 e3
    exact hs i v T σ _ (y xs q) p e2
  · have e : i = xs.length := by omega
    subst e
    exact .inl ⟨⟨xs, q, Nat.le_refl _⟩, hd σ H p⟩
end
theorem grow_snoc {rows : List (List Str)} {cs : List Str} (r : List Str) : grow (rows ++ [r]) cs = grow rows cs ++ cs.map fun c => r ++ [c] := by
  unfold grow
  rw [List.flatMap_append]
  simp
theorem fillN_num {css : List (List Str)} {atoms : List Atom} {S : List Fact} (h : ∀ cs ∈ css, cs.length ≤ 7) : ∀ n, (fillN css atoms S n).length ≤ 7 ^ n
  | 0 => Nat.le_refl _
  | n + 1 => by
    have h1 : (css.getD n []).length ≤ 7 := by
      rw [List.getD_eq_getElem?_getD]
      cases e : css[n]? with
      | none => exact Nat.zero_le _
      | some cs => exact h cs (List.mem_of_getElem? e)
    show ((grow (fillN css atoms S n) (css.getD n [])).filter _).length ≤ _
    refine Nat.le_trans (List.length_filter_le ..) ?_
    rw [grow_num, Nat.pow_succ]
    exact Nat.mul_le_mul (fillN_num h n) h1
theorem pow7 {n : Nat} (h : n ≤ 4) : 7 ^ n ≤ 2401 := Nat.pow_le_pow_right (by decide) h
theorem spSt {K : PySem.W.Frag} {H : Hp} {l : List Nat} {b : Addr} {n : Nat} {ns : List Nat} (e : l = n :: ns) (h : SqT K H b (nI l)) : SqT K H b (((n : Int) :: ns.map fun n : Nat => (n : Int)).map V.int) := by
  subst e
  rw [nI_int] at h
  exact h
/-- max of a row of names -/
theorem rd_maxT {K : PySem.W.Frag} {H : Hp} {Q : VK} {b : Addr} {l : List Nat} (h : SqT K H b (nI l)) (hl : l ≠ []) (q : Q (.int ((mx l : Nat) : Int)) H) : rMaxT K [.ref b] H Q := by
  cases l with
  | nil => exact absurd rfl hl
  | cons n ns =>
    refine ⟨b, (n : Int), ns.map fun n : Nat => (n : Int), rfl, spSt rfl h, ?_⟩
    rw [mx_int]
    exact q
end Cq
namespace Cq
open PySem PySem.Spec PyProof.Rows L2 Gx Lw Sn Dn Wq
theorem mxT {K : PySem.W.Frag} {H : Hp} {b : Addr} {l : List Nat} (h : SqT K H b (nI l)) (hl : l ≠ []) : ∃ (n : Int) (ns : List Int), SqT K H b ((n :: ns).map V.int) ∧ ns.foldl max n = ((mx l : Nat) : Int) := by
  cases l with
  | nil => exact absurd rfl hl
  | cons n ns => exact ⟨(n : Int), ns.map fun n : Nat => (n : Int), spSt rfl h, mx_int n ns⟩
end Cq
namespace Cq
theorem take_flat {α : Type} {rows : List (List α)} {i : Nat} {row : List α} (h : rows[i]? = some row) : (rows.take (i + 1)).flatten = (rows.take i).flatten ++ row := by
  rw [List.take_add_one, h, List.flatten_append]
  simp
theorem flat_lt {rows : List (List Nat)} {N : Nat} (h : ∀ n ∈ rows.flatten, n < N) (i : Nat) {row : List Nat} (hr : rows[i]? = some row) (j : Nat) : ∀ n ∈ (rows.take i).flatten ++ row.take j, n < N := fun n hn => by
  refine h n ?_
  rcases List.mem_append.mp hn with hn | hn
  · obtain ⟨r, h1, h2⟩ := List.mem_flatten.mp hn
    exact List.mem_flatten.mpr ⟨r, List.mem_of_mem_take h1, h2⟩
  · exact List.mem_flatten.mpr ⟨row, List.mem_of_getElem? hr, List.mem_of_mem_take hn⟩
end Cq
namespace Cq
open PySem PySem.Spec PyProof.Rows L2 Gx Lw Sn Dn Wq
theorem val_tr (ks : List Nat) (k : Nat) : (valV (trD ks) (Sum.inl (k : Int) : Key)).isSome = decide (k ∈ ks) := by
  induction ks with
  | nil => rfl
  | cons x ks ih =>
    show (valV ((Sum.inl (x : Int), V.bl true) :: trD ks) _).isSome = _
    by_cases h : x = k
    · subst h
      rw [valV_pos rfl]
      simp
    · rw [valV_neg fun e => h (by injection e with e; exact Int.ofNat.inj e), ih]
      refine decide_eq_decide.mpr ⟨fun z => List.mem_cons_of_mem _ z, fun z => (List.mem_cons.mp z).resolve_left fun e => h e.symm⟩
theorem WdA.app {K : PySem.W.Frag} {H : Hp} {cs : List Str} {a : Addr} (h : SqL K H a (cs.map V.str)) : ∀ {css : List (List Str)} {vs : List V}, WdA K H css vs → WdA K H (css ++ [cs]) (vs ++ [.ref a]) := fun w => w.snoc h
/-- a list that is stored anew at an address that was not known -/
theorem SqL.keep {K : PySem.W.Frag} {H H2 : Hp} {a D : Addr} {xs : List V} {o : HO} (x : Xt H H2) (h : SqL K H a xs) (hD : H D = none) : SqL K (upd H2 D o) a xs := (x.mut hD).sqL h
theorem choices_len (cs : List Str) (nm : List Nat) (n : Nat) : (choices cs nm n).length = n := by simp [choices]
theorem choices_mem {cs : List Str} {nm : List Nat} {n : Nat} : ∀ x ∈ choices cs nm n, x.length ≤ cs.length := fun x hx => by
  obtain ⟨i, _, rfl⟩ := List.mem_map.mp hx
  split
  · exact Nat.le_refl _
  · rw [List.length_take]; omega
end Cq
namespace Cq
open PySem PySem.Spec PyProof.Rows L2 Gx Lw Sn Dn Wq
theorem sqL_ne {K : PySem.W.Frag} {H : Hp} {a L : Addr} {xs : List V} {o : HO} (h : SqL K H a xs) (ne : a ≠ L) : SqL K (upd H L o) a xs := by
  rcases h with (h | ⟨q, h⟩) | h
  · exact .inl (.inl (by rw [upd_ne ne]; exact h))
  · exact .inl (.inr ⟨q, by rw [upd_ne ne]; exact h⟩)
  · exact .inr h
theorem WdA.mutL {K : PySem.W.Frag} {H : Hp} {L : Addr} {o : HO} : ∀ {css : List (List Str)} {vs : List V}, WdA K H css vs → V.ref L ∉ vs → WdA K (upd H L o) css vs
  | _, _, .nil, _ => .nil
  | _, _, .cons h1 h2, ne => .cons (sqL_ne h1 fun z => ne (z ▸ List.mem_cons_self ..)) (h2.mutL fun z => ne (List.mem_cons_of_mem _ z))
end Cq
namespace Cq
open PySem PySem.Spec PyProof.Rows L2 Gx Lw Sn Dn Wq
/-- lists, item by item -/
inductive All2 {α β : Type} (r : α → β → Prop) : List α → List β → Prop
  | nil : All2 r [] []
  | cons {x : α} {y : β} {l : List α} {m : List β} : r x y → All2 r l m → All2 r (x :: l) (y :: m)
section
variable {α β : Type} {r q : α → β → Prop}
theorem All2.len : ∀ {l : List α} {m : List β}, All2 r l m → m.length = l.length
  | _, _, .nil => rfl
  | _, _, .cons _ h => by rw [List.length_cons, List.length_cons, h.len]
theorem All2.imp (f : ∀ x y, r x y → q x y) : ∀ {l : List α} {m : List β}, All2 r l m → All2 q l m
  | _, _, .nil => .nil
  | _, _, .cons h1 h2 => .cons (f _ _ h1) (h2.imp f)
theorem All2.app : ∀ {l l' : List α} {m m' : List β}, All2 r l m → All2 r l' m' → All2 r (l ++ l') (m ++ m')
  | _, _, _, _, .nil, h => h
  | _, _, _, _, .cons h1 h2, h => .cons h1 (h2.app h)
theorem All2.snoc {l : List α} {m : List β} {x : α} {y : β} (h : All2 r l m) (e : r x y) : All2 r (l ++ [x]) (m ++ [y]) := h.app (.cons e .nil)
theorem All2.at : ∀ {l : List α} {m : List β}, All2 r l m → ∀ {i : Nat} {y : β}, m[i]? = some y → ∃ x, l[i]? = some x ∧ r x y
  | _, _, .nil, i, y, e => by cases e
  | _, _, .cons h1 h2, 0, y, e => by cases e; exact ⟨_, rfl, h1⟩
  | _, _, .cons h1 h2, i + 1, y, e => h2.at (i := i) e
theorem All2.get {l : List α} {m : List β} (h : All2 r l m) {i : Nat} {x : α} (e : l[i]? = some x) : ∃ y, m[i]? = some y ∧ r x y := by
  have hi : i < m.length := by rw [h.len]; exact (List.getElem?_eq_some_iff.mp e).1
  obtain ⟨x', e', q⟩ := h.at (List.getElem?_eq_getElem hi)
  rw [e] at e'
  cases e'
  exact ⟨_, List.getElem?_eq_getElem hi, q⟩
theorem All2.mem {l : List α} {m : List β} (h : All2 r l m) {y : β} (e : y ∈ m) : ∃ x ∈ l, r x y := by
  obtain ⟨i, hi⟩ := List.getElem?_of_mem e
  obtain ⟨x, e1, e2⟩ := h.at hi
  exact ⟨x, List.mem_of_getElem? e1, e2⟩
theorem All2.drop : ∀ {l : List α} {m : List β}, All2 r l m → ∀ n, All2 r (l.drop n) (m.drop n)
  | _, _, h, 0 => h
  | _, _, .nil, n + 1 => .nil
  | _, _, .cons h1 h2, n + 1 => h2.drop n
theorem All2.take : ∀ {l : List α} {m : List β}, All2 r l m → ∀ n, All2 r (l.take n) (m.take n)
  | _, _, h, 0 => .nil
  | _, _, .nil, n + 1 => .nil
  | _, _, .cons h1 h2, n + 1 => .cons h1 (h2.take n)
end
/-- a step whose head and atoms were there in H0 -/
def StepB (K : PySem.W.Frag) (H0 H : Hp) (r : RuleT) (n : Nat) (v : V) : Prop := ∃ t hv q ws, v = .ref t ∧ H t = some (.tup [hv, .ref q, .int (n : Int)]) ∧ NkV K H0 (ak r.1) hv ∧ H0 q = some (.lst ws) ∧ NkA K H0 (r.2.map ak) ws
theorem StepB.tk {K : PySem.W.Frag} {H0 H H' : Hp} {r : RuleT} {n : Nat} {v : V} (x : Tk H H') (h : StepB K H0 H r n v) : StepB K H0 H' r n v := by
  obtain ⟨t, hv, q, ws, e, h1, h2, h3, h4⟩ := h
  exact ⟨t, hv, q, ws, e, x.t _ _ h1, h2, h3, h4⟩
theorem stepA_of {K : PySem.W.Frag} {H0 H : Hp} {ln : RuleT → Nat} (x : Xt H0 H) : ∀ {rs : List RuleT} {vs : List V}, All2 (fun r v => StepB K H0 H r (ln r) v) rs vs → StepA K H ln rs vs
  | _, _, .nil => .nil
  | _, _, .cons ⟨t, hv, q, ws, e, h1, h2, h3, h4⟩ h => .cons ⟨t, hv, q, ws, e, h1, nkV_tk (.of_xt x) _ _ h2, x.lst h3, nkA_tk (.of_xt x) _ _ h4⟩ (stepA_of x h)
end Cq
set_option Elab.async false
set_option linter.all false
set_option maxRecDepth 100000
set_option maxHeartbeats 4000000
/-! colours, lots and trees: mathematics, place in memory; comprehensions of any walk -/
namespace Ct
open PySem PySem.Spec PyProof.Rows L2 Gx Lw Dn Wq Cq
/-! ### colours -/
def usedN (cs : List Nat) : Nat := match cs with
  | [] => 0
  | c :: cs => cs.foldl max c + 1
def giv (cs : List Nat) (k : Nat) : Nat := min (usedN cs + 1) k
theorem foldl_cast : ∀ (l : List Nat) (c : Nat), (l.map fun n : Nat => (n : Int)).foldl max (c : Int) = ((l.foldl max c : Nat) : Int)
  | [], _ => rfl
  | x :: l, c => by
    show (l.map fun n : Nat => (n : Int)).foldl max (max (c : Int) (x : Int)) = ((l.foldl max (max c x) : Nat) : Int)
    rw [show max (c : Int) (x : Int) = ((max c x : Nat) : Int) by omega, foldl_cast l]
theorem used_int (cs : List Nat) : maxDf (cs.map fun n : Nat => (n : Int)) (-1) + 1 = (usedN cs : Int) := by
  cases cs with
  | nil => rfl
  | cons c cs =>
    show (cs.map fun n : Nat => (n : Int)).foldl max (c : Int) + 1 = ((cs.foldl max c + 1 : Nat) : Int)
    rw [foldl_cast]
    omega
theorem le_foldl : ∀ (l : List Nat) (c : Nat), c ≤ l.foldl max c ∧ ∀ x ∈ l, x ≤ l.foldl max c
  | [], c => ⟨Nat.le_refl _, fun x h => by cases h⟩
  | y :: l, c => by
    obtain ⟨h1, h2⟩ := le_foldl l (max c y)
    show c ≤ l.foldl max (max c y) ∧ ∀ x ∈ y :: l, x ≤ l.foldl max (max c y)
    refine ⟨by omega, fun x hx => ?_⟩
    rcases List.mem_cons.mp hx with rfl | hx
    · omega
    · exact h2 x hx
theorem foldl_mem : ∀ (l : List Nat) (c : Nat), l.foldl max c ∈ c :: l
  | [], c => List.mem_cons_self ..
  | y :: l, c => by
    have h := foldl_mem l (max c y)
    show l.foldl max (max c y) ∈ c :: y :: l
    rcases List.mem_cons.mp h with h | h
    · rw [h]
      rcases Nat.le_total c y with z | z
      · rw [Nat.max_eq_right z]; exact List.mem_cons_of_mem _ (List.mem_cons_self ..)
      · rw [Nat.max_eq_left z]; exact List.mem_cons_self ..
    · exact List.mem_cons_of_mem _ (List.mem_cons_of_mem _ h)
/-- the greatest of the colours, by what max asks -/
theorem used_max {cs : List Nat} {m : Int} (hm : m ∈ cs.map fun n : Nat => (n : Int)) (hle : ∀ y, y ∈ (cs.map fun n : Nat => (n : Int)) → y ≤ m) : m + 1 = (usedN cs : Int) := by
  cases cs with
  | nil => cases hm
  | cons c cs =>
    obtain ⟨x, hx, rfl⟩ := List.mem_map.mp hm
    obtain ⟨h1, h2⟩ := le_foldl cs c
    have h3 := hle _ (List.mem_map.mpr ⟨_, foldl_mem cs c, rfl⟩)
    have h4 : x ≤ cs.foldl max c := by
      rcases List.mem_cons.mp hx with rfl | hx
      · exact h1
      · exact h2 x hx
    show (x : Int) + 1 = ((cs.foldl max c + 1 : Nat) : Int)
    omega
def mono (cs r : List Nat) : Bool := r.all fun x => decide (x < cs.length) && decide (cs.getD x 0 = cs.getD (r.headD 0) 0)
structure LotOk (cnt : Nat) (r : List Nat) : Prop where
  ne : r ≠ []
  asc : r.Pairwise (· < ·)
  lt : ∀ x ∈ r, x < cnt
theorem LotOk.head {cnt : Nat} {r : List Nat} (h : LotOk cnt r) : ∃ y t, r = y :: t ∧ ∀ x ∈ r, y ≤ x := by
  cases r with
  | nil => exact absurd rfl h.ne
  | cons y t =>
    refine ⟨y, t, rfl, fun x hx => ?_⟩
    rcases List.mem_cons.mp hx with rfl | hx
    · exact Nat.le_refl _
    · exact Nat.le_of_lt ((List.pairwise_cons.mp h.asc).1 x hx)
theorem LotOk.len {cnt : Nat} {r : List Nat} (h : LotOk cnt r) : r.length ≤ cnt := nodup_len cnt r (h.asc.imp fun h => Nat.ne_of_lt h) h.lt
structure Lts (cnt : Nat) (ls : List (List Nat)) : Prop where
  n8 : ls.length ≤ 8
  ok : ∀ r ∈ ls, LotOk cnt r
  c6 : cnt ≤ 6
theorem getD_take {cs : List Nat} {m x : Nat} (h : x < m) : (cs.take m).getD x 0 = cs.getD x 0 := by
  rw [List.getD_eq_getElem?_getD, List.getD_eq_getElem?_getD, List.getElem?_take, if_pos h]
theorem mono_take {cs r : List Nat} {m : Nat} (h : mono (cs.take m) r = true) : mono cs r = true := by
  unfold mono at h ⊢
  rw [List.all_eq_true] at h ⊢
  intro x hx
  have hl : ∀ y ∈ r, y < m ∧ y < cs.length := fun y hy => by
    have h2 := h y hy
    rw [Bool.and_eq_true, decide_eq_true_iff, List.length_take] at h2
    omega
  have hh : r.headD 0 < m := by
    cases r with
    | nil => cases hx
    | cons y t => exact (hl y (List.mem_cons_self ..)).1
  have h2 := h x hx
  rw [Bool.and_eq_true, decide_eq_true_iff, decide_eq_true_iff] at h2
  obtain ⟨_, h3⟩ := h2
  rw [getD_take (hl x hx).1, getD_take hh] at h3
  rw [Bool.and_eq_true, decide_eq_true_iff, decide_eq_true_iff]
  exact ⟨(hl x hx).2, h3⟩
def ones (cs : List Nat) (ls : List (List Nat)) : List Nat := (List.range ls.length).filter fun j => mono cs (ls.getD j [])
theorem mem_ones {cs : List Nat} {ls : List (List Nat)} {j : Nat} : j ∈ ones cs ls ↔ j < ls.length ∧ mono cs (ls.getD j []) = true := by
  unfold ones
  rw [List.mem_filter, List.mem_range]
theorem ones_len (cs : List Nat) (ls : List (List Nat)) : (ones cs ls).length ≤ ls.length := by
  have h := List.length_filter_le (fun j => mono cs (ls.getD j [])) (List.range ls.length)
  rwa [List.length_range] at h
/-! ### trees -/
inductive Tr
  | lot (z : Int)
  | give (ts : List Tr)
def lotB (ls : List (List Nat)) (cs : List Nat) (z : Int) : Bool := decide (0 ≤ z) && decide (z < (ls.length : Nat)) && mono cs (ls.getD z.toNat [])
def jd (ls : List (List Nat)) (k : Nat) : Nat → List Nat → Tr → Bool
  | 0, cs, t => match t with
    | .lot z => lotB ls cs z
    | .give _ => false
  | f + 1, cs, t => match t with
    | .lot z => lotB ls cs z
    | .give ts => decide (ts.length = giv cs k) && (List.range ts.length).all fun i => jd ls k f (cs ++ [i]) (ts.getD i (.lot 0))
theorem jd_lot {ls : List (List Nat)} {k f : Nat} {cs : List Nat} {z : Int} : jd ls k f cs (.lot z) = lotB ls cs z := by
  cases f <;> rfl
theorem lotB_ones (ls : List (List Nat)) (cs : List Nat) (z : Int) : lotB ls cs z = decide (∃ j ∈ ones cs ls, (j : Int) = z) := by
  unfold lotB
  rw [Bool.eq_iff_iff, Bool.and_eq_true, Bool.and_eq_true, decide_eq_true_iff, decide_eq_true_iff, decide_eq_true_iff]
  constructor
  · rintro ⟨⟨h1, h2⟩, h3⟩
    exact ⟨z.toNat, mem_ones.mpr ⟨by omega, h3⟩, by omega⟩
  · rintro ⟨j, hj, rfl⟩
    obtain ⟨h1, h2⟩ := mem_ones.mp hj
    exact ⟨⟨by omega, by omega⟩, h2⟩
/-! ### all colourings -/
def gl (k : Nat) : Nat → List (List Nat)
  | 0 => [[]]
  | t + 1 => (gl k t).flatMap fun one => (List.range (giv one k)).map fun c => one ++ [c]
theorem gl_mem {k : Nat} : ∀ {t : Nat} {cs : List Nat}, cs ∈ gl k t → cs.length = t ∧ ∀ i x, cs[i]? = some x → x < giv (cs.take i) k
  | 0, cs, h => by
    obtain rfl := List.mem_singleton.mp h
    exact ⟨rfl, fun i x e => by cases e⟩
  | t + 1, cs, h => by
    obtain ⟨one, h1, h2⟩ := List.mem_flatMap.mp h
    obtain ⟨c, h3, rfl⟩ := List.mem_map.mp h2
    obtain ⟨h4, h5⟩ := gl_mem h1
    refine ⟨by rw [List.length_append, h4]; rfl, fun i x e => ?_⟩
    by_cases hi : i < one.length
    · rw [List.getElem?_append_left hi] at e
      rw [List.take_append_of_le_length (Nat.le_of_lt hi)]
      exact h5 i x e
    · have hi2 : i < (one ++ [c]).length := (List.getElem?_eq_some_iff.mp e).1
      rw [List.length_append] at hi2
      have ei : i = one.length := by
        have : [c].length = 1 := rfl
        omega
      subst ei
      rw [List.getElem?_append_right (Nat.le_refl _), Nat.sub_self] at e
      cases e
      rw [List.take_append_of_le_length (Nat.le_refl _), List.take_length]
      exact List.mem_range.mp h3
theorem gl_len {k : Nat} (hk : k ≤ 3) : ∀ t, (gl k t).length ≤ 3 ^ t
  | 0 => Nat.le_refl _
  | t + 1 => by
    have go : ∀ l : List (List Nat), (l.flatMap fun one => (List.range (giv one k)).map fun c => one ++ [c]).length ≤ 3 * l.length := by
      intro l
      induction l with
      | nil => exact Nat.le_refl _
      | cons x l ih =>
        rw [List.flatMap_cons, List.length_append, List.length_map, List.length_range, List.length_cons]
        have : giv x k ≤ 3 := Nat.le_trans (Nat.min_le_right ..) hk
        omega
    have h := go (gl k t)
    have h2 := gl_len hk t
    show (List.flatMap _ _).length ≤ 3 ^ t * 3
    omega
/-- what is accepted leaves no colouring -/
theorem refuted {ls : List (List Nat)} {k cnt : Nat} {cs : List Nat} (hg : cs ∈ gl k cnt) : ∀ (f m : Nat) (t : Tr), m + f = cnt → jd ls k f (cs.take m) t = true → ones cs ls ≠ [] := by
  obtain ⟨hl, hx⟩ := gl_mem hg
  have lot : ∀ (m : Nat) (z : Int), lotB ls (cs.take m) z = true → ones cs ls ≠ [] := fun m z h e => by
    unfold lotB at h
    rw [Bool.and_eq_true, Bool.and_eq_true, decide_eq_true_iff, decide_eq_true_iff] at h
    obtain ⟨⟨h1, h2⟩, h3⟩ := h
    have h4 : z.toNat ∈ ones cs ls := mem_ones.mpr ⟨by omega, mono_take h3⟩
    rw [e] at h4
    cases h4
  intro f
  induction f with
  | zero =>
    intro m t hm h
    cases t with
    | lot z => exact lot m z h
    | give ts => cases h
  | succ f ih =>
    intro m t hm h
    cases t with
    | lot z => exact lot m z h
    | give ts =>
      have h0 : (decide (ts.length = giv (cs.take m) k) && (List.range ts.length).all fun i => jd ls k f (cs.take m ++ [i]) (ts.getD i (.lot 0))) = true := h
      rw [Bool.and_eq_true, decide_eq_true_iff, List.all_eq_true] at h0
      obtain ⟨h1, h2⟩ := h0
      have hm2 : m < cs.length := by omega
      have e := List.getElem?_eq_getElem hm2
      have h3 := h2 cs[m] (List.mem_range.mpr (by rw [h1]; exact hx m _ e))
      have e2 : cs.take m ++ [cs[m]] = cs.take (m + 1) := by
        rw [List.take_add_one, e]
        rfl
      rw [e2] at h3
      exact ih (m + 1) _ (by omega) h3
/-! ### how many turns judging takes at most -/
def sz : Nat → Tr → Nat
  | 0, _ => 1
  | f + 1, t => match t with
    | .lot _ => 1
    | .give ts => if ts.length ≤ 3 then 1 + (ts.map (sz f)).sum else 1
theorem sz_pos (f : Nat) (t : Tr) : 1 ≤ sz f t := by
  cases f with
  | zero => exact Nat.le_refl _
  | succ f =>
    cases t with
    | lot z => exact Nat.le_refl _
    | give ts =>
      show 1 ≤ if ts.length ≤ 3 then 1 + (ts.map (sz f)).sum else 1
      split <;> omega
theorem sz_le : ∀ (f : Nat) (t : Tr), sz f t ≤ 4 ^ f
  | 0, _ => Nat.le_refl _
  | f + 1, .lot _ => Nat.one_le_iff_ne_zero.mpr (by simp)
  | f + 1, .give ts => by
    have p : 1 ≤ 4 ^ f := Nat.one_le_iff_ne_zero.mpr (by simp)
    have go : ∀ l : List Tr, (l.map (sz f)).sum ≤ l.length * 4 ^ f := by
      intro l
      induction l with
      | nil => exact Nat.zero_le _
      | cons x l ih =>
        rw [List.map_cons, List.sum_cons, List.length_cons, Nat.add_mul]
        have := sz_le f x
        omega
    show (if ts.length ≤ 3 then 1 + (ts.map (sz f)).sum else 1) ≤ 4 ^ f * 4
    split
    · rename_i h
      have h2 := go ts
      have h3 : ts.length * 4 ^ f ≤ 3 * 4 ^ f := Nat.mul_le_mul_right _ h
      omega
    · omega
/-! ### trees in memory; S: where their lists may stand -/
def TrV (H : Hp) (S : Addr → Prop) (w : Nat) : Nat → Tr → V → Prop
  | 0, _, _ => False
  | n + 1, t, v => match t with
    | .lot z => ∃ a, v = .ref a ∧ H a = some (.tup [.str "lot", .int z])
    | .give ts => ∃ a l xs, v = .ref a ∧ H a = some (.tup [.str "give", .ref l]) ∧ H l = some (.lst xs) ∧ S l ∧ ts.length ≤ w ∧ All2 (TrV H S w n) ts xs
theorem TrV.keep {H H' : Hp} {S S' : Addr → Prop} {w w' : Nat} (hw : w ≤ w') (hS : ∀ a, S a → S' a) (kt : ∀ a xs, H a = some (.tup xs) → H' a = some (.tup xs)) (kl : ∀ a xs, S a → H a = some (.lst xs) → H' a = some (.lst xs)) : ∀ (n m : Nat) (t : Tr) (v : V), n ≤ m → TrV H S w n t v → TrV H' S' w' m t v
  | 0, _, _, _, _, h => h.elim
  | n + 1, 0, _, _, hm, _ => by omega
  | n + 1, m + 1, .lot z, v, _, ⟨a, e, h⟩ => ⟨a, e, kt _ _ h⟩
  | n + 1, m + 1, .give ts, v, hm, ⟨a, l, xs, e, h1, h2, hs, h3, h4⟩ =>
    ⟨a, l, xs, e, kt _ _ h1, kl _ _ hs h2, hS _ hs, Nat.le_trans h3 hw, h4.imp fun t v q => TrV.keep hw hS kt kl n m t v (by omega) q⟩
theorem TrV.ref {H : Hp} {S : Addr → Prop} {w n : Nat} {t : Tr} {v : V} (h : TrV H S w n t v) : ∃ a, v = .ref a := by
  cases n with
  | zero => exact h.elim
  | succ n =>
    cases t with
    | lot z => obtain ⟨a, rfl, _⟩ := h; exact ⟨a, rfl⟩
    | give ts => obtain ⟨a, l, xs, rfl, _⟩ := h; exact ⟨a, rfl⟩
theorem TrV.xt {H H' : Hp} {S : Addr → Prop} {w n : Nat} {t : Tr} {v : V} (x : Xt H H') (h : TrV H S w n t v) : TrV H' S w n t v := TrV.keep (Nat.le_refl _) (fun _ h => h) (fun _ _ => x.tup) (fun _ _ _ h => x.lst h) n n t v (Nat.le_refl _) h
theorem TrV.up {H : Hp} {S S' : Addr → Prop} {w w' n m : Nat} {t : Tr} {v : V} (hS : ∀ a, S a → S' a) (hw : w ≤ w') (hn : n ≤ m) (h : TrV H S w n t v) : TrV H S' w' m t v := TrV.keep hw hS (fun _ _ h => h) (fun _ _ _ h => h) n m t v hn h
theorem TrV.xd {H H' : Hp} {S : Addr → Prop} {d : Addr} {w n : Nat} {t : Tr} {v : V} (hd : Dr H d) (x : Xd d H H') (hS : ∀ a, S a → a ≠ d) (h : TrV H S w n t v) : TrV H' S w n t v :=
  TrV.keep (Nat.le_refl _) (fun _ h => h) (fun a xs e => x.tup (fun z => by
    obtain ⟨ns, e2⟩ := hd
    rw [z, e2] at e
    cases e) e) (fun _ _ hs h => x.lst (hS _ hs) h) n n t v (Nat.le_refl _) h
theorem TrV.put {H : Hp} {S : Addr → Prop} {D : Addr} {acc : List V} {o : HO} {w n : Nat} {t : Tr} {v : V} (hD : H D = some (.lst acc)) (hS : ∀ a, S a → a ≠ D) (h : TrV H S w n t v) : TrV (upd H D o) S w n t v :=
  TrV.keep (Nat.le_refl _) (fun _ h => h) (fun a xs e => by
    rw [upd_ne fun z => by
      rw [z, hD] at e
      cases e]
    exact e) (fun a xs hs e => by rw [upd_ne (hS a hs)]; exact e) n n t v (Nat.le_refl _) h
/-! ### comprehensions of any walk -/
section
variable {K : PySem.W.Frag} {g : TG} {tt : TT} {te : TE}
theorem lcW {α : Type} {J : It} {vs : List Nat} {σ : L2.St} {H1 : Hp} {D : Addr} {Qd : Hp → Prop} (n : Nat) (E : Hp → Hp → Prop) (R : Nat → α → Prop) (r : α → Hp → V → Prop)
    (hD : H1 D = none) (hm : n ≤ sizeLine) (e0 : E H1 (upd H1 D (.lst []))) (etr : ∀ A B C, E A B → E B C → E A C) (emut : ∀ H' acc o, E H1 H' → H' D = some (.lst acc) → E H1 (upd H' D o)) (elst : ∀ H H2 acc, E H H2 → H D = some (.lst acc) → H2 D = some (.lst acc))
    (hX : ∀ H H2 a y, E H1 H → E H H2 → r a H y → r a H2 y) (hU : ∀ H acc a y o, H D = some (.lst acc) → r a H y → r a (upd H D o) y)
    (hgo : ∀ i H', i < n → E H1 H' → J.go i H') (hst : ∀ H', E H1 H' → J.stop n H')
    (hs : ∀ (i : Nat) v H' H2 (Y : V → Hp → Prop) (N : Hp → Prop), i < n → E H1 H' → (∃ acc, H' D = some (.lst acc)) → J.yld i H' v H2 → (∀ H3 y a, E H' H3 → R i a → r a H3 y → Y y H3) →
      g v (wipe σ vs) H2 fun σ2 H2 => wipe σ2 vs = wipe σ vs ∧ tt σ2 H2 fun b H3 => if b = true then te σ2 H3 Y else N H3)
    (hq : ∀ H' ys l, E H1 H' → H' D = some (.lst ys) → l.length = n → (∀ (i : Nat) a, l[i]? = some a → R i a) → All2 (fun a y => r a H' y) l ys → Qd H') :
    ∃ W : Nat → Nat → Hp → Prop, (∃ m, W 0 m (upd H1 D (.lst []))) ∧ ∀ i m' H, W i m' H →
      (J.stop i H ∧ Qd H) ∨ (J.go i H ∧ ∃ Nx : Hp → Prop, (∀ H', Nx H' → ∃ m'', m'' < m' ∧ W (i + 1) m'' H') ∧ ∀ v H', J.yld i H v H' → g v (wipe σ vs) H' fun σ2 H2 => wipe σ2 vs = wipe σ vs ∧ tt σ2 H2 fun b H3 =>
        if b = true then te σ2 H3 fun y H4 => ∃ acc, H4 D = some (.lst acc) ∧ acc.length < sizeLine ∧ Nx (upd H4 D (.lst (acc ++ [y]))) else Nx H3) := by
  refine walk_by n (fun i H' => E H1 H' ∧ ∃ (ys : List V) (l : List α), H' D = some (.lst ys) ∧ l.length = i ∧ (∀ (j : Nat) a, l[j]? = some a → R j a) ∧ All2 (fun a y => r a H' y) l ys) ⟨e0, [], [], upd_same .., rfl, (fun j a e => by cases e), .nil⟩ (fun i H hi hp => hgo i H hi hp.1) (fun H hp => hst H hp.1) (fun i x H' H2 hi hp hy => ?_) (fun H' hp => ?_)
  · obtain ⟨xd, ys, l, e, hl, hR, hA⟩ := hp
    refine hs i x H' H2 _ _ hi xd ⟨_, e⟩ hy fun H3 v a x2 hr hv => ⟨ys, elst _ _ _ x2 e, by rw [hA.len]; omega, emut _ _ _ (etr _ _ _ xd x2) (elst _ _ _ x2 e), ys ++ [v], l ++ [a], upd_same .., by simp [hl], fun j b hb => ?_, ?_⟩
    · by_cases hj : j < l.length
      · rw [List.getElem?_append_left hj] at hb
        exact hR j b hb
      · have hj2 : j < (l ++ [a]).length := (List.getElem?_eq_some_iff.mp hb).1
        rw [List.length_append] at hj2
        have : j = l.length := by
          have : [a].length = 1 := rfl
          omega
        rw [this, List.getElem?_append_right (Nat.le_refl _), Nat.sub_self] at hb
        cases hb
        rw [this, hl]
        exact hr
    · exact (hA.imp fun a y z => hU _ _ _ _ _ (elst _ _ _ x2 e) (hX _ _ _ _ xd x2 z)).snoc (hU _ _ _ _ _ (elst _ _ _ x2 e) hv)
  · obtain ⟨xd, ys, l, e, hl, hR, hA⟩ := hp
    exact hq H' ys l xd e hl hR hA
/-- nothing drawn -/
theorem lcX {α : Type} {J : It} {vs : List Nat} {σ : L2.St} {H1 : Hp} {D : Addr} {Qd : Hp → Prop} (n : Nat) (R : Nat → α → Prop) (r : α → Hp → V → Prop) (hD : H1 D = none) (hm : n ≤ sizeLine)
    (hX : ∀ H H2 a y, Xt H H2 → r a H y → r a H2 y) (hU : ∀ H acc a y o, H D = some (.lst acc) → r a H y → r a (upd H D o) y)
    (hgo : ∀ i H', i < n → Xt H1 H' → J.go i H') (hst : ∀ H', Xt H1 H' → J.stop n H')
    (hs : ∀ (i : Nat) v H' H2 (Y : V → Hp → Prop) (N : Hp → Prop), i < n → Xt H1 H' → (∃ acc, H' D = some (.lst acc)) → J.yld i H' v H2 → (∀ H3 y a, Xt H' H3 → R i a → r a H3 y → Y y H3) →
      g v (wipe σ vs) H2 fun σ2 H2 => wipe σ2 vs = wipe σ vs ∧ tt σ2 H2 fun b H3 => if b = true then te σ2 H3 Y else N H3)
    (hq : ∀ H' ys l, Xt H1 H' → H' D = some (.lst ys) → l.length = n → (∀ (i : Nat) a, l[i]? = some a → R i a) → All2 (fun a y => r a H' y) l ys → Qd H') :
    ∃ W : Nat → Nat → Hp → Prop, (∃ m, W 0 m (upd H1 D (.lst []))) ∧ ∀ i m' H, W i m' H →
      (J.stop i H ∧ Qd H) ∨ (J.go i H ∧ ∃ Nx : Hp → Prop, (∀ H', Nx H' → ∃ m'', m'' < m' ∧ W (i + 1) m'' H') ∧ ∀ v H', J.yld i H v H' → g v (wipe σ vs) H' fun σ2 H2 => wipe σ2 vs = wipe σ vs ∧ tt σ2 H2 fun b H3 =>
        if b = true then te σ2 H3 fun y H4 => ∃ acc, H4 D = some (.lst acc) ∧ acc.length < sizeLine ∧ Nx (upd H4 D (.lst (acc ++ [y]))) else Nx H3) :=
  lcW n Xt R r hD hm (Xt.new hD) (fun _ _ _ => Xt.trans) (fun H' acc o x _ => x.mut hD) (fun _ _ _ x h => x.lst h) (fun H H2 a y _ x h => hX H H2 a y x h) hU hgo hst hs hq
/-- with draws -/
theorem lcDr {α : Type} {J : It} {d : Addr} {vs : List Nat} {σ : L2.St} {H1 : Hp} {D : Addr} {Qd : Hp → Prop} (n : Nat) (R : Nat → α → Prop) (r : α → Hp → V → Prop) (hd : Dr H1 d) (hD : H1 D = none) (hm : n ≤ sizeLine)
    (hX : ∀ H H2 a y, Dr H d → Xd d H H2 → r a H y → r a H2 y) (hU : ∀ H acc a y o, H D = some (.lst acc) → r a H y → r a (upd H D o) y)
    (hgo : ∀ i H', i < n → Xd d H1 H' → J.go i H') (hst : ∀ H', Xd d H1 H' → J.stop n H')
    (hs : ∀ (i : Nat) v H' H2 (Y : V → Hp → Prop) (N : Hp → Prop), i < n → Xd d H1 H' → (∃ acc, H' D = some (.lst acc)) → J.yld i H' v H2 → (∀ H3 y a, Xd d H' H3 → R i a → r a H3 y → Y y H3) →
      g v (wipe σ vs) H2 fun σ2 H2 => wipe σ2 vs = wipe σ vs ∧ tt σ2 H2 fun b H3 => if b = true then te σ2 H3 Y else N H3)
    (hq : ∀ H' ys l, Xd d H1 H' → H' D = some (.lst ys) → l.length = n → (∀ (i : Nat) a, l[i]? = some a → R i a) → All2 (fun a y => r a H' y) l ys → Qd H') :
    ∃ W : Nat → Nat → Hp → Prop, (∃ m, W 0 m (upd H1 D (.lst []))) ∧ ∀ i m' H, W i m' H →
      (J.stop i H ∧ Qd H) ∨ (J.go i H ∧ ∃ Nx : Hp → Prop, (∀ H', Nx H' → ∃ m'', m'' < m' ∧ W (i + 1) m'' H') ∧ ∀ v H', J.yld i H v H' → g v (wipe σ vs) H' fun σ2 H2 => wipe σ2 vs = wipe σ vs ∧ tt σ2 H2 fun b H3 =>
        if b = true then te σ2 H3 fun y H4 => ∃ acc, H4 D = some (.lst acc) ∧ acc.length < sizeLine ∧ Nx (upd H4 D (.lst (acc ++ [y]))) else Nx H3) := by
  have hdD : d ≠ D := hd.ne_none hD
  exact lcW n (Xd d) R r hD hm ((Xd.refl hd).mut hdD hD) (fun _ _ _ => Xd.trans) (fun H' acc o x _ => x.mut hdD hD) (fun _ _ _ x h => x.lst (fun z => hdD z.symm) h) (fun H H2 a y x1 x h => hX H H2 a y x1.dr x h) hU hgo hst hs hq
/-- items that are plain values, told by their place -/
theorem lcF {J : It} {vs : List Nat} {σ : L2.St} {H1 : Hp} {D : Addr} {Qd : Hp → Prop} (n : Nat) (f : Nat → V) (hD : H1 D = none) (hm : n ≤ sizeLine)
    (hgo : ∀ i H', i < n → Xt H1 H' → J.go i H') (hst : ∀ H', Xt H1 H' → J.stop n H')
    (hs : ∀ (i : Nat) v H' H2 (Y : V → Hp → Prop) (N : Hp → Prop), i < n → Xt H1 H' → J.yld i H' v H2 → (∀ H3, Xt H' H3 → Y (f i) H3) →
      g v (wipe σ vs) H2 fun σ2 H2 => wipe σ2 vs = wipe σ vs ∧ tt σ2 H2 fun b H3 => if b = true then te σ2 H3 Y else N H3)
    (hq : ∀ H', Xt H1 H' → H' D = some (.lst ((List.range n).map f)) → Qd H') :
    ∃ W : Nat → Nat → Hp → Prop, (∃ m, W 0 m (upd H1 D (.lst []))) ∧ ∀ i m' H, W i m' H →
      (J.stop i H ∧ Qd H) ∨ (J.go i H ∧ ∃ Nx : Hp → Prop, (∀ H', Nx H' → ∃ m'', m'' < m' ∧ W (i + 1) m'' H') ∧ ∀ v H', J.yld i H v H' → g v (wipe σ vs) H' fun σ2 H2 => wipe σ2 vs = wipe σ vs ∧ tt σ2 H2 fun b H3 =>
        if b = true then te σ2 H3 fun y H4 => ∃ acc, H4 D = some (.lst acc) ∧ acc.length < sizeLine ∧ Nx (upd H4 D (.lst (acc ++ [y]))) else Nx H3) := by
  refine lcX (α := Nat) n (fun i a => a = i) (fun a _ y => y = f a) hD hm (fun _ _ _ _ _ h => h) (fun _ _ _ _ _ _ h => h) hgo hst (fun i v H' H2 Y N hi x _ hy k => hs i v H' H2 Y N hi x hy fun H3 x3 => k H3 _ i x3 rfl rfl) fun H' ys l x e hl hR hA => hq H' x ?_
  have e1 : l = List.range n := by
    refine List.ext_getElem? fun i => ?_
    by_cases hi : i < n
    · rw [List.getElem?_range hi, List.getElem?_eq_getElem (by omega)]
      exact congrArg some (hR i _ (List.getElem?_eq_getElem (by omega)))
    · rw [List.getElem?_eq_none (by omega), List.getElem?_eq_none (by rw [List.length_range]; omega)]
  have e2 : ys = l.map f := by
    clear e hl hR e1
    induction hA with
    | nil => rfl
    | cons h _ ih => rw [List.map_cons, ← ih, h]
  rw [e, e2, e1]
end
theorem all_range {α : Type} (r : List α) (z : α) (q : α → Bool) : ((List.range r.length).all fun i => q (r.getD i z)) = r.all q := by
  rw [Bool.eq_iff_iff, List.all_eq_true, List.all_eq_true]
  constructor
  · intro h x hx
    obtain ⟨i, hi⟩ := List.getElem?_of_mem hx
    have := h i (List.mem_range.mpr (List.getElem?_eq_some_iff.mp hi).1)
    rwa [List.getD_eq_getElem?_getD, hi] at this
  · intro h i hi
    have hl := List.mem_range.mp hi
    rw [List.getD_eq_getElem?_getD, List.getElem?_eq_getElem hl]
    exact h _ (List.getElem_mem hl)
end Ct
set_option Elab.async false
set_option linter.all false
namespace Gx
open PySem PySem.Spec PyProof.Rows L2
section
variable {X : Cx} {K : PySem.W.Frag}
theorem cr_anyK (hK : X.K = K) (hc : X.calm = true) : CallR X (.builtin "any") (rAny K) := by subst hK; exact cr_any hc
theorem cr_allK (hK : X.K = K) (hc : X.calm = true) : CallR X (.builtin "all") (rAll K) := by subst hK; exact cr_all hc
end
end Gx
set_option Elab.async false
set_option linter.all false
set_option maxRecDepth 100000
set_option maxHeartbeats 4000000
namespace K40
open PySem PySem.Spec PyProof.Rows L2 Gx
def topS (i : Nat) : Stmt := PySem.Challenge.pw_fewrules_k40_colour_trees_told.main.body.getD i (.Pass ⟨0, 0, 0, 0⟩)
abbrev s_least_colouring : Stmt := topS 1
theorem sc_least_colouring : FnScope ["count", "lots", "k", "ending"] ["count", "lots", "k"] (defScope s_least_colouring) := ⟨rfl, rfl, rfl, by decide +kernel, rfl, by decide +kernel, by decide +kernel⟩
abbrev s_first_colouring : Stmt := topS 2
theorem sc_first_colouring : FnScope ["count", "k", "is_fine", "colours", "following"] ["count", "k", "is_fine"] (defScope s_first_colouring) := ⟨rfl, rfl, rfl, by decide +kernel, rfl, by decide +kernel, by decide +kernel⟩
abbrev s_choices_for : Stmt := topS 3
theorem sc_choices_for : FnScope ["colours", "k", "used"] ["colours", "k"] (defScope s_choices_for) := ⟨rfl, rfl, rfl, by decide +kernel, rfl, by decide +kernel, by decide +kernel⟩
abbrev s_numbers_by_last : Stmt := topS 4
theorem sc_numbers_by_last : FnScope ["lots", "ending", "number", "lot"] ["lots"] (defScope s_numbers_by_last) := ⟨rfl, rfl, rfl, by decide +kernel, rfl, by decide +kernel, by decide +kernel⟩
abbrev s_first_of_one_colour : Stmt := topS 5
theorem sc_first_of_one_colour : FnScope ["lots", "ending", "colours", "number"] ["lots", "ending", "colours"] (defScope s_first_of_one_colour) := ⟨rfl, rfl, rfl, by decide +kernel, rfl, by decide +kernel, by decide +kernel⟩
abbrev s_colour_tree : Stmt := topS 6
theorem sc_colour_tree : FnScope ["count", "lots", "k", "ending", "trees", "waiting", "colours", "given", "colour", "more", "number", "below"] ["count", "lots", "k"] (defScope s_colour_tree) := ⟨rfl, rfl, rfl, by decide +kernel, rfl, by decide +kernel, by decide +kernel⟩
abbrev s_judge_colours : Stmt := topS 7
theorem sc_judge_colours : FnScope ["count", "lots", "k", "tree", "waiting", "colours", "word", "told", "colour", "below"] ["count", "lots", "k", "tree"] (defScope s_judge_colours) := ⟨rfl, rfl, rfl, by decide +kernel, rfl, by decide +kernel, by decide +kernel⟩
abbrev s_is_of_one_colour : Stmt := topS 8
theorem sc_is_of_one_colour : FnScope ["lot", "colours"] ["lot", "colours"] (defScope s_is_of_one_colour) := ⟨rfl, rfl, rfl, by decide +kernel, rfl, by decide +kernel, by decide +kernel⟩
abbrev s__law_draws : Stmt := topS 10
theorem sc__law_draws : FnScope ["script", "draws", "cell", "number", "first", "k", "seed"] ["script"] (defScope s__law_draws) := ⟨rfl, rfl, rfl, by decide +kernel, rfl, by decide +kernel, by decide +kernel⟩
abbrev s__law_take : Stmt := topS 11
theorem sc__law_take : FnScope ["draws", "bound"] ["draws", "bound"] (defScope s__law_take) := ⟨rfl, rfl, rfl, by decide +kernel, rfl, by decide +kernel, by decide +kernel⟩
abbrev s__law_same : Stmt := topS 12
theorem sc__law_same : FnScope ["value", "due", "k"] ["value", "due"] (defScope s__law_same) := ⟨rfl, rfl, rfl, by decide +kernel, rfl, by decide +kernel, by decide +kernel⟩
abbrev s__law_growths : Stmt := topS 13
theorem sc__law_growths : FnScope ["count", "k", "lists", "turn", "longer", "one", "most", "colour"] ["count", "k"] (defScope s__law_growths) := ⟨rfl, rfl, rfl, by decide +kernel, rfl, by decide +kernel, by decide +kernel⟩
abbrev s__law_of_one : Stmt := topS 14
theorem sc__law_of_one : FnScope ["lots", "colours", "rows", "j", "thing"] ["lots", "colours"] (defScope s__law_of_one) := ⟨rfl, rfl, rfl, by decide +kernel, rfl, by decide +kernel, by decide +kernel⟩
abbrev s__law_colouring : Stmt := topS 15
theorem sc__law_colouring : FnScope ["count", "lots", "k", "colours"] ["count", "lots", "k"] (defScope s__law_colouring) := ⟨rfl, rfl, rfl, by decide +kernel, rfl, by decide +kernel, by decide +kernel⟩
abbrev s__law_lots : Stmt := topS 16
theorem sc__law_lots : FnScope ["draws", "count", "lots", "turn", "size", "chosen", "lot", "k", "thing"] ["draws", "count"] (defScope s__law_lots) := ⟨rfl, rfl, rfl, by decide +kernel, rfl, by decide +kernel, by decide +kernel⟩
abbrev s__law_given : Stmt := topS 17
theorem sc__law_given : FnScope ["colours", "k", "most"] ["colours", "k"] (defScope s__law_given) := ⟨rfl, rfl, rfl, by decide +kernel, rfl, by decide +kernel, by decide +kernel⟩
abbrev s__law_tree : Stmt := topS 18
theorem sc__law_tree : FnScope ["count", "lots", "k", "colours", "rows", "trees", "colour"] ["count", "lots", "k", "colours"] (defScope s__law_tree) := ⟨rfl, rfl, rfl, by decide +kernel, rfl, by decide +kernel, by decide +kernel⟩
abbrev s_law : Stmt := topS 20
theorem sc_law : FnScope ["script", "draws", "count", "lots", "first", "k", "due", "answer"] ["script"] (defScope s_law) := ⟨rfl, rfl, rfl, by decide +kernel, rfl, by decide +kernel, by decide +kernel⟩
structure Ads where
  (f_least_colouring c_least_colouring P_least_colouring : Addr) (fd_least_colouring : FuncData)
  (f_first_colouring c_first_colouring P_first_colouring : Addr) (fd_first_colouring : FuncData)
  (f_choices_for c_choices_for P_choices_for : Addr) (fd_choices_for : FuncData)
  (f_numbers_by_last c_numbers_by_last P_numbers_by_last : Addr) (fd_numbers_by_last : FuncData)
  (f_first_of_one_colour c_first_of_one_colour P_first_of_one_colour : Addr) (fd_first_of_one_colour : FuncData)
  (f_colour_tree c_colour_tree P_colour_tree : Addr) (fd_colour_tree : FuncData)
  (f_judge_colours c_judge_colours P_judge_colours : Addr) (fd_judge_colours : FuncData)
  (f_is_of_one_colour c_is_of_one_colour P_is_of_one_colour : Addr) (fd_is_of_one_colour : FuncData)
  (f__law_draws c__law_draws P__law_draws : Addr) (fd__law_draws : FuncData)
  (f__law_take c__law_take P__law_take : Addr) (fd__law_take : FuncData)
  (f__law_same c__law_same P__law_same : Addr) (fd__law_same : FuncData)
  (f__law_growths c__law_growths P__law_growths : Addr) (fd__law_growths : FuncData)
  (f__law_of_one c__law_of_one P__law_of_one : Addr) (fd__law_of_one : FuncData)
  (f__law_colouring c__law_colouring P__law_colouring : Addr) (fd__law_colouring : FuncData)
  (f__law_lots c__law_lots P__law_lots : Addr) (fd__law_lots : FuncData)
  (f__law_given c__law_given P__law_given : Addr) (fd__law_given : FuncData)
  (f__law_tree c__law_tree P__law_tree : Addr) (fd__law_tree : FuncData)
  (f_law c_law P_law : Addr) (fd_law : FuncData)
structure Txt (K : PySem.W.Frag) (mg : Str → Option Value) (a : Ads) : Prop where
  g_least_colouring : mg "least_colouring" = some (.ref a.f_least_colouring)
  F_least_colouring : FunT K "least_colouring" s_least_colouring a.f_least_colouring a.fd_least_colouring a.c_least_colouring
  b_least_colouring : Binds K a.fd_least_colouring ["count", "lots", "k"] []
  g_first_colouring : mg "first_colouring" = some (.ref a.f_first_colouring)
  F_first_colouring : FunT K "first_colouring" s_first_colouring a.f_first_colouring a.fd_first_colouring a.c_first_colouring
  b_first_colouring : Binds K a.fd_first_colouring ["count", "k", "is_fine"] []
  g_choices_for : mg "choices_for" = some (.ref a.f_choices_for)
  F_choices_for : FunT K "choices_for" s_choices_for a.f_choices_for a.fd_choices_for a.c_choices_for
  b_choices_for : Binds K a.fd_choices_for ["colours", "k"] []
  g_numbers_by_last : mg "numbers_by_last" = some (.ref a.f_numbers_by_last)
  F_numbers_by_last : FunT K "numbers_by_last" s_numbers_by_last a.f_numbers_by_last a.fd_numbers_by_last a.c_numbers_by_last
  b_numbers_by_last : Binds K a.fd_numbers_by_last ["lots"] []
  g_first_of_one_colour : mg "first_of_one_colour" = some (.ref a.f_first_of_one_colour)
  F_first_of_one_colour : FunT K "first_of_one_colour" s_first_of_one_colour a.f_first_of_one_colour a.fd_first_of_one_colour a.c_first_of_one_colour
  b_first_of_one_colour : Binds K a.fd_first_of_one_colour ["lots", "ending", "colours"] []
  g_colour_tree : mg "colour_tree" = some (.ref a.f_colour_tree)
  F_colour_tree : FunT K "colour_tree" s_colour_tree a.f_colour_tree a.fd_colour_tree a.c_colour_tree
  b_colour_tree : Binds K a.fd_colour_tree ["count", "lots", "k"] []
  g_judge_colours : mg "judge_colours" = some (.ref a.f_judge_colours)
  F_judge_colours : FunT K "judge_colours" s_judge_colours a.f_judge_colours a.fd_judge_colours a.c_judge_colours
  b_judge_colours : Binds K a.fd_judge_colours ["count", "lots", "k", "tree"] []
  g_is_of_one_colour : mg "is_of_one_colour" = some (.ref a.f_is_of_one_colour)
  F_is_of_one_colour : FunT K "is_of_one_colour" s_is_of_one_colour a.f_is_of_one_colour a.fd_is_of_one_colour a.c_is_of_one_colour
  b_is_of_one_colour : Binds K a.fd_is_of_one_colour ["lot", "colours"] []
  g__law_draws : mg "_law_draws" = some (.ref a.f__law_draws)
  F__law_draws : FunT K "_law_draws" s__law_draws a.f__law_draws a.fd__law_draws a.c__law_draws
  b__law_draws : Binds K a.fd__law_draws ["script"] []
  g__law_take : mg "_law_take" = some (.ref a.f__law_take)
  F__law_take : FunT K "_law_take" s__law_take a.f__law_take a.fd__law_take a.c__law_take
  b__law_take : Binds K a.fd__law_take ["draws", "bound"] []
  g__law_same : mg "_law_same" = some (.ref a.f__law_same)
  F__law_same : FunT K "_law_same" s__law_same a.f__law_same a.fd__law_same a.c__law_same
  b__law_same : Binds K a.fd__law_same ["value", "due"] []
  g__law_growths : mg "_law_growths" = some (.ref a.f__law_growths)
  F__law_growths : FunT K "_law_growths" s__law_growths a.f__law_growths a.fd__law_growths a.c__law_growths
  b__law_growths : Binds K a.fd__law_growths ["count", "k"] []
  g__law_of_one : mg "_law_of_one" = some (.ref a.f__law_of_one)
  F__law_of_one : FunT K "_law_of_one" s__law_of_one a.f__law_of_one a.fd__law_of_one a.c__law_of_one
  b__law_of_one : Binds K a.fd__law_of_one ["lots", "colours"] []
  g__law_colouring : mg "_law_colouring" = some (.ref a.f__law_colouring)
  F__law_colouring : FunT K "_law_colouring" s__law_colouring a.f__law_colouring a.fd__law_colouring a.c__law_colouring
  b__law_colouring : Binds K a.fd__law_colouring ["count", "lots", "k"] []
  g__law_lots : mg "_law_lots" = some (.ref a.f__law_lots)
  F__law_lots : FunT K "_law_lots" s__law_lots a.f__law_lots a.fd__law_lots a.c__law_lots
  b__law_lots : Binds K a.fd__law_lots ["draws", "count"] []
  g__law_given : mg "_law_given" = some (.ref a.f__law_given)
  F__law_given : FunT K "_law_given" s__law_given a.f__law_given a.fd__law_given a.c__law_given
  b__law_given : Binds K a.fd__law_given ["colours", "k"] []
  g__law_tree : mg "_law_tree" = some (.ref a.f__law_tree)
  F__law_tree : FunT K "_law_tree" s__law_tree a.f__law_tree a.fd__law_tree a.c__law_tree
  b__law_tree : Binds K a.fd__law_tree ["count", "lots", "k", "colours"] []
  g_law : mg "law" = some (.ref a.f_law)
  F_law : FunT K "law" s_law a.f_law a.fd_law a.c_law
  b_law : Binds K a.fd_law ["script"] []
  len : mg "len" = none
  all : mg "all" = none
  max : mg "max" = none
  min : mg "min" = none
  abs : mg "abs" = none
  int : mg "int" = none
  range : mg "range" = none
  list : mg "list" = none
  reversed : mg "reversed" = none
  tuple : mg "tuple" = none
  enumerate : mg "enumerate" = none
  isinstance : mg "isinstance" = none
  bool : mg "bool" = none
  str : mg "str" = none
structure TabT (base : Heap) (mg : Str → Option Value) (a : Ads) : Prop where
  tab_least_colouring : GxR.TabB base mg a.c_least_colouring a.P_least_colouring
  tab_first_of_one_colour : GxR.TabB base mg a.c_first_of_one_colour a.P_first_of_one_colour
  tab_is_of_one_colour : GxR.TabB base mg a.c_is_of_one_colour a.P_is_of_one_colour
end K40
set_option Elab.async false
set_option linter.all false
set_option maxRecDepth 100000
set_option maxHeartbeats 4000000
/-! least colourings: mathematics -/
namespace K40
open PySem PySem.Spec PyProof.Rows L2 Gx Wq Lw Cq Ct
def lastN (r : List Nat) : Nat := r.getLastD 0
def numsN (ls : List (List Nat)) (n l : Nat) : List Nat := (List.range n).filter fun j => decide (lastN (ls.getD j []) = l)
def fineB (ls : List (List Nat)) (cs : List Nat) : Bool := (numsN ls ls.length (cs.length - 1)).all fun j => !mono cs (ls.getD j [])
def okc (fine : List Nat → Bool) (cs : List Nat) : Bool := (List.range cs.length).all fun i => fine (cs.take (i + 1))
theorem okc_snoc (fine : List Nat → Bool) (cs : List Nat) (c : Nat) : okc fine (cs ++ [c]) = (okc fine cs && fine (cs ++ [c])) := by
  unfold okc
  rw [List.length_append, List.length_singleton, List.range_succ, List.all_append]
  congr 1
  · rw [Bool.eq_iff_iff, List.all_eq_true, List.all_eq_true]
    have e : ∀ i ∈ List.range cs.length, (cs ++ [c]).take (i + 1) = cs.take (i + 1) := fun i hi => by
      rw [List.take_append_of_le_length (by have := List.mem_range.mp hi; omega)]
    constructor
    · intro h i hi
      rw [← e i hi]
      exact h i hi
    · intro h i hi
      rw [e i hi]
      exact h i hi
  · rw [List.all_cons, List.all_nil, Bool.and_true]
    congr 1
    rw [List.take_of_length_le (by rw [List.length_append, List.length_singleton]; exact Nat.le_refl _)]
def bl (k : Nat) : Nat → List Nat → List (List Nat)
  | 0, cs => [cs]
  | d + 1, cs => ((List.range (giv cs k)).map fun c => cs ++ [c]).flatMap (bl k d)
theorem gl_bl (k : Nat) : ∀ d i, gl k (i + d) = (gl k i).flatMap (bl k d)
  | 0, i => by
    show gl k i = (gl k i).flatMap fun cs => [cs]
    simp
  | d + 1, i => by
    rw [show i + (d + 1) = (i + 1) + d by omega, gl_bl k d (i + 1)]
    show ((gl k i).flatMap fun one => (List.range (giv one k)).map fun c => one ++ [c]).flatMap (bl k d) = _
    rw [List.flatMap_assoc]
    rfl
theorem gl_eq (k cnt : Nat) : gl k cnt = bl k cnt [] := by
  have h := gl_bl k cnt 0
  rw [Nat.zero_add] at h
  rw [h]
  show bl k cnt [] ++ [] = _
  rw [List.append_nil]
theorem bl_pre {k : Nat} : ∀ (d : Nat) (cs x : List Nat), x ∈ bl k d cs → cs <+: x
  | 0, cs, x, h => by
    rw [List.mem_singleton.mp h]
    exact List.prefix_refl _
  | d + 1, cs, x, h => by
    obtain ⟨y, hy, hx⟩ := List.mem_flatMap.mp h
    obtain ⟨c, _, rfl⟩ := List.mem_map.mp hy
    exact (List.prefix_append _ _).trans (bl_pre d _ _ hx)
theorem okc_pre {fine : List Nat → Bool} {cs x : List Nat} (h0 : cs ≠ []) (h : cs <+: x) (ho : okc fine x = true) : fine cs = true := by
  unfold okc at ho
  rw [List.all_eq_true] at ho
  have hl := h.length_le
  have h1 : 0 < cs.length := List.length_pos_iff.mpr h0
  have := ho (cs.length - 1) (List.mem_range.mpr (by omega))
  rw [show cs.length - 1 + 1 = cs.length by omega, ← List.prefix_iff_eq_take.mp h] at this
  exact this
def dwn (k : Nat) (fine : List Nat → Bool) : Nat → List Nat → Option (List Nat)
  | 0, cs => some cs
  | d + 1, cs => (List.range (giv cs k)).findSome? fun c => if fine (cs ++ [c]) = true then dwn k fine d (cs ++ [c]) else none
theorem dwn_find {k : Nat} {fine : List Nat → Bool} : ∀ (d : Nat) (cs : List Nat), okc fine cs = true → dwn k fine d cs = (bl k d cs).find? (okc fine)
  | 0, cs, h => by
    show some cs = [cs].find? (okc fine)
    rw [List.find?_cons_of_pos h]
  | d + 1, cs, h => by
    show ((List.range (giv cs k)).findSome? fun c => if fine (cs ++ [c]) = true then dwn k fine d (cs ++ [c]) else none) = (((List.range (giv cs k)).map fun c => cs ++ [c]).flatMap (bl k d)).find? (okc fine)
    rw [List.find?_flatMap, List.findSome?_map]
    congr 1
    funext c
    show _ = (bl k d (cs ++ [c])).find? (okc fine)
    by_cases hf : fine (cs ++ [c]) = true
    · rw [if_pos hf]
      exact dwn_find d _ (by rw [okc_snoc, h, hf]; rfl)
    · rw [if_neg hf]
      symm
      rw [List.find?_eq_none]
      intro x hx ho
      exact hf (okc_pre (by simp) (bl_pre d _ _ hx) ho)
def frm (k : Nat) (fine : List Nat → Bool) (d : Nat) (cs : List Nat) (f : Nat) : Option (List Nat) :=
  ((List.range (giv cs k)).drop f).findSome? fun c => if fine (cs ++ [c]) = true then dwn k fine d (cs ++ [c]) else none
theorem frm_hi {k : Nat} {fine : List Nat → Bool} {d : Nat} {cs : List Nat} {f : Nat} (h : giv cs k ≤ f) : frm k fine d cs f = none := by
  unfold frm
  rw [List.drop_eq_nil_of_le (by rw [List.length_range]; exact h)]
  rfl
theorem frm_lo {k : Nat} {fine : List Nat → Bool} {d : Nat} {cs : List Nat} {f : Nat} (h : f < giv cs k) : frm k fine d cs f = (if fine (cs ++ [f]) = true then dwn k fine d (cs ++ [f]) else none).or (frm k fine d cs (f + 1)) := by
  unfold frm
  rw [List.drop_eq_getElem_cons (by rw [List.length_range]; exact h), List.findSome?_cons, List.getElem_range]
  cases (if fine (cs ++ [f]) = true then dwn k fine d (cs ++ [f]) else none) <;> rfl
def rst (k : Nat) (fine : List Nat → Bool) : Nat → List Nat → Nat → Option (List Nat)
  | d, [], f => frm k fine d [] f
  | d, c :: rc, f => (frm k fine d (c :: rc).reverse f).or (rst k fine (d + 1) rc (c + 1))
theorem rst_hi {k : Nat} {fine : List Nat → Bool} {d c : Nat} {rc : List Nat} {f : Nat} (h : giv (c :: rc).reverse k ≤ f) : rst k fine d (c :: rc) f = rst k fine (d + 1) rc (c + 1) := by
  show (frm k fine d (c :: rc).reverse f).or _ = _
  rw [frm_hi h]
  rfl
theorem rst_bad {k : Nat} {fine : List Nat → Bool} {d : Nat} {rc : List Nat} {f : Nat} (h : f < giv rc.reverse k) (hf : fine (rc.reverse ++ [f]) = false) : rst k fine d rc f = rst k fine d rc (f + 1) := by
  cases rc with
  | nil =>
    show frm k fine d [] f = frm k fine d [] (f + 1)
    have hf : fine ([] ++ [f]) = false := hf
    have h : f < giv [] k := h
    rw [frm_lo h, hf]
    rfl
  | cons c rc =>
    show (frm k fine d (c :: rc).reverse f).or _ = (frm k fine d (c :: rc).reverse (f + 1)).or _
    rw [frm_lo h, hf]
    rfl
theorem rst_ok0 {k : Nat} {fine : List Nat → Bool} {rc : List Nat} {f : Nat} (h : f < giv rc.reverse k) (hf : fine (rc.reverse ++ [f]) = true) : rst k fine 0 rc f = some (rc.reverse ++ [f]) := by
  cases rc with
  | nil =>
    show frm k fine 0 [] f = _
    have hf : fine ([] ++ [f]) = true := hf
    have h : f < giv [] k := h
    rw [frm_lo h, if_pos hf]
    rfl
  | cons c rc =>
    show (frm k fine 0 (c :: rc).reverse f).or _ = _
    rw [frm_lo h, if_pos hf]
    rfl
theorem rst_okS {k : Nat} {fine : List Nat → Bool} {d : Nat} {rc : List Nat} {f : Nat} (h : f < giv rc.reverse k) (hf : fine (rc.reverse ++ [f]) = true) : rst k fine (d + 1) rc f = rst k fine d (f :: rc) 0 := by
  have e : dwn k fine (d + 1) (rc.reverse ++ [f]) = frm k fine d (f :: rc).reverse 0 := by rw [List.reverse_cons]; rfl
  cases rc with
  | nil =>
    show frm k fine (d + 1) [] f = (frm k fine d [f].reverse 0).or (frm k fine (d + 1) [] (f + 1))
    have hf : fine ([] ++ [f]) = true := hf
    have h : f < giv [] k := h
    rw [frm_lo h, if_pos hf, ← e]
    rfl
  | cons c rc =>
    show (frm k fine (d + 1) (c :: rc).reverse f).or _ = (frm k fine d (f :: c :: rc).reverse 0).or ((frm k fine (d + 1) (c :: rc).reverse (f + 1)).or _)
    rw [frm_lo h, if_pos hf, ← e, Option.or_assoc]
theorem rst_start (k : Nat) (fine : List Nat → Bool) (d : Nat) : rst k fine d [] 0 = (gl k (d + 1)).find? (okc fine) := by
  rw [gl_eq, ← dwn_find (d + 1) [] rfl]
  rfl
/-- an upper bound of the turns that are left -/
def wt : Nat → Nat
  | 0 => 1
  | d + 1 => 5 * wt d + 2
def cst : Nat → List Nat → Nat → Nat
  | d, [], f => (5 - f) * wt d + 1
  | d, c :: rc, f => (5 - f) * wt d + 1 + cst (d + 1) rc (c + 1)
theorem wt_pos : ∀ d, 1 ≤ wt d
  | 0 => Nat.le_refl _
  | d + 1 => by show 1 ≤ 5 * wt d + 2; omega
theorem cst_hi (d c : Nat) (rc : List Nat) (f : Nat) : cst (d + 1) rc (c + 1) < cst d (c :: rc) f := by
  show _ < (5 - f) * wt d + 1 + cst (d + 1) rc (c + 1)
  omega
theorem wt_cut {d f : Nat} (h : f < 5) : (5 - f) * wt d = (5 - (f + 1)) * wt d + wt d := by
  rw [show 5 - f = (5 - (f + 1)) + 1 by omega, Nat.succ_mul]
theorem cst_bad {d : Nat} {rc : List Nat} {f : Nat} (h : f < 5) : cst d rc (f + 1) < cst d rc f := by
  have h1 := wt_pos d
  cases rc with
  | nil =>
    show (5 - (f + 1)) * wt d + 1 < (5 - f) * wt d + 1
    rw [wt_cut h]
    omega
  | cons c rc =>
    show (5 - (f + 1)) * wt d + 1 + _ < (5 - f) * wt d + 1 + _
    rw [wt_cut h]
    omega
theorem cst_okS {d : Nat} {rc : List Nat} {f : Nat} (h : f < 5) : cst d (f :: rc) 0 < cst (d + 1) rc f := by
  have e : wt (d + 1) = 5 * wt d + 2 := rfl
  cases rc with
  | nil =>
    show (5 - 0) * wt d + 1 + ((5 - (f + 1)) * wt (d + 1) + 1) < (5 - f) * wt (d + 1) + 1
    rw [wt_cut h, e]
    omega
  | cons c rc =>
    show (5 - 0) * wt d + 1 + ((5 - (f + 1)) * wt (d + 1) + 1 + _) < (5 - f) * wt (d + 1) + 1 + _
    rw [wt_cut h, e]
    omega
theorem cst_pos : ∀ (d : Nat) (rc : List Nat) (f : Nat), 0 < cst d rc f
  | d, [], f => by show 0 < (5 - f) * wt d + 1; omega
  | d, c :: rc, f => by show 0 < (5 - f) * wt d + 1 + _; omega
theorem lotLast {cnt : Nat} {r : List Nat} (h : LotOk cnt r) : lastN r < cnt ∧ ∀ x ∈ r, x ≤ lastN r := by
  obtain ⟨l, x, rfl⟩ : ∃ l x, r = l ++ [x] := ⟨r.dropLast, r.getLast h.ne, (List.dropLast_concat_getLast h.ne).symm⟩
  have e : lastN (l ++ [x]) = x := by unfold lastN; rw [List.getLastD_concat]
  rw [e]
  refine ⟨h.lt x (by simp), fun y hy => ?_⟩
  rcases List.mem_append.mp hy with hy | hy
  · exact Nat.le_of_lt ((List.pairwise_append.mp h.asc).2.2 y hy x (by simp))
  · rw [List.mem_singleton.mp hy]
    exact Nat.le_refl _
/-- a whole colouring is good just when no lot has one colour -/
theorem okc_ones {cnt : Nat} {ls : List (List Nat)} {cs : List Nat} (hL : Lts cnt ls) (hc : cs.length = cnt) : okc (fineB ls) cs = true ↔ ones cs ls = [] := by
  have key : ∀ i j, i < cnt → j < ls.length → lastN (ls.getD j []) = i → mono (cs.take (i + 1)) (ls.getD j []) = mono cs (ls.getD j []) := fun i j hi hj e => by
    have hm : ls.getD j [] ∈ ls := by
      rw [List.getD_eq_getElem?_getD, List.getElem?_eq_getElem hj]
      exact List.getElem_mem hj
    have hl := (lotLast (hL.ok _ hm)).2
    generalize ls.getD j [] = r at *
    obtain ⟨y, tl, rfl, hy⟩ := (hL.ok _ hm).head
    unfold mono
    rw [Bool.eq_iff_iff, List.all_eq_true, List.all_eq_true]
    have e2 : ∀ x ∈ y :: tl, (decide (x < (cs.take (i + 1)).length) && decide ((cs.take (i + 1)).getD x 0 = (cs.take (i + 1)).getD ((y :: tl).headD 0) 0)) = (decide (x < cs.length) && decide (cs.getD x 0 = cs.getD ((y :: tl).headD 0) 0)) := fun x hx => by
      have hx1 := hl x hx
      have hy1 := hl y (List.mem_cons_self ..)
      rw [getD_take (by omega), getD_take (x := (y :: tl).headD 0) (by show y < i + 1; omega), List.length_take]
      rw [decide_eq_true (show x < min (i + 1) cs.length by omega), decide_eq_true (show x < cs.length by omega)]
    constructor
    · intro h x hx
      rw [← e2 x hx]
      exact h x hx
    · intro h x hx
      rw [e2 x hx]
      exact h x hx
  constructor
  · intro h
    rw [List.eq_nil_iff_forall_not_mem]
    intro j hj
    obtain ⟨h1, h2⟩ := mem_ones.mp hj
    have hm : ls.getD j [] ∈ ls := by
      rw [List.getD_eq_getElem?_getD, List.getElem?_eq_getElem h1]
      exact List.getElem_mem h1
    have hl := (lotLast (hL.ok _ hm)).1
    unfold okc at h
    rw [List.all_eq_true] at h
    have := h (lastN (ls.getD j [])) (List.mem_range.mpr (by omega))
    unfold fineB at this
    rw [List.all_eq_true] at this
    have := this j (by
      unfold numsN
      rw [List.mem_filter, List.mem_range]
      refine ⟨h1, decide_eq_true ?_⟩
      rw [List.length_take]
      omega)
    rw [key _ _ hl h1 rfl, h2] at this
    cases this
  · intro h
    unfold okc
    rw [List.all_eq_true]
    intro i hi
    have hi := List.mem_range.mp hi
    unfold fineB
    rw [List.all_eq_true]
    intro j hj
    unfold numsN at hj
    rw [List.mem_filter, List.mem_range] at hj
    have e := of_decide_eq_true hj.2
    rw [List.length_take] at e
    have e : lastN (ls.getD j []) = i := by omega
    rw [key i j (by omega) hj.1 e]
    cases hm : mono cs (ls.getD j []) with
    | false => rfl
    | true =>
      have : j ∈ ones cs ls := mem_ones.mpr ⟨hj.1, hm⟩
      rw [h] at this
      cases this
theorem find_ok {cnt k : Nat} {ls : List (List Nat)} (hL : Lts cnt ls) : (gl k cnt).find? (okc (fineB ls)) = (gl k cnt).find? fun cs => decide (ones cs ls = []) := by
  have go : ∀ l : List (List Nat), (∀ cs ∈ l, cs.length = cnt) → l.find? (okc (fineB ls)) = l.find? fun cs => decide (ones cs ls = []) := fun l => by
    induction l with
    | nil => intro _; rfl
    | cons x l ih =>
      intro h
      rw [List.find?_cons, List.find?_cons, ih fun cs hc => h cs (List.mem_cons_of_mem _ hc)]
      have e : okc (fineB ls) x = decide (ones x ls = []) := by
        rw [Bool.eq_iff_iff, okc_ones hL (h x (List.mem_cons_self ..)), decide_eq_true_iff]
      rw [e]
  exact go _ fun cs hc => (gl_mem hc).1
end K40
set_option Elab.async false
set_option linter.all false
set_option maxRecDepth 100000
set_option maxHeartbeats 4000000
/-! the mathematics of first steps -/
namespace Cq
open PySem PySem.Spec PyProof.Rows L2 Gx Lw Sn Dn Wq
/-- what does not depend on places that are not named -/
def Dep (nm : List Nat) (n : Nat) (p : List Str → Bool) : Prop := ∀ f g : List Str, f.length = n → g.length = n → (∀ i ∈ nm, f.getD i noS = g.getD i noS) → p f = p g
theorem find_grow (p : List Str → Bool) (cs : List Str) : ∀ rows : List (List Str), (grow rows cs).find? p = (rows.find? fun r => cs.any fun c => p (r ++ [c])).bind fun r => (cs.find? fun c => p (r ++ [c])).map fun c => r ++ [c]
  | [] => rfl
  | r :: rows => by
    have h1 : (cs.map fun c => r ++ [c]).find? p = (cs.find? fun c => p (r ++ [c])).map fun c => r ++ [c] := by
      rw [List.find?_map]
      rfl
    have h2 : grow (r :: rows) cs = (cs.map fun c => r ++ [c]) ++ grow rows cs := by
      unfold grow
      rw [List.flatMap_cons]
    rw [h2, List.find?_append, h1, List.find?_cons]
    cases e : cs.any fun c => p (r ++ [c]) with
    | true =>
      obtain ⟨c, hc, hp⟩ := List.any_eq_true.mp e
      cases q : cs.find? fun c => p (r ++ [c]) with
      | none => exact absurd hp (by simpa using List.find?_eq_none.mp q c hc)
      | some c' =>
        show Option.or (some _) _ = (some r).bind _
        rw [Option.bind_some, q]
        rfl
    | false =>
      have q : (cs.find? fun c => p (r ++ [c])) = none := List.find?_eq_none.mpr fun c hc hp => by
        rw [List.any_eq_true.mpr ⟨c, hc, hp⟩] at e
        cases e
      rw [q]
      show Option.or none _ = _
      rw [Option.none_or, find_grow p cs rows]
theorem getD_snoc (f : List Str) (c : Str) (i : Nat) : (f ++ [c]).getD i noS = if i < f.length then f.getD i noS else if i = f.length then c else noS := by
  rw [List.getD_eq_getElem?_getD, List.getD_eq_getElem?_getD]
  by_cases h : i < f.length
  · rw [if_pos h, List.getElem?_append_left h]
  · rw [if_neg h, List.getElem?_append_right (by omega)]
    by_cases h2 : i = f.length
    · rw [if_pos h2, h2, Nat.sub_self]
      rfl
    · rw [if_neg h2, List.getElem?_eq_none (by simp; omega)]
      rfl
theorem Dep.snoc {nm : List Nat} {n : Nat} {p : List Str → Bool} (h : Dep nm (n + 1) p) (c : Str) : Dep nm n fun r => p (r ++ [c]) := fun f g hf hg e => h _ _ (by simp [hf]) (by simp [hg]) fun i hi => by
  rw [getD_snoc, getD_snoc, hf, hg, e i hi]
theorem find_prod {cs : List Str} (hc : cs ≠ []) (nm : List Nat) : ∀ (n : Nat) (p : List Str → Bool), Dep nm n p → (prodC (choices cs nm n)).find? p = (prodN cs n).find? p
  | 0, p, _ => rfl
  | n + 1, p, h => by
    have ec : choices cs nm (n + 1) = choices cs nm n ++ [if n ∈ nm then cs else cs.take 1] := by
      unfold choices
      rw [List.range_succ, List.map_append]
      rfl
    rw [ec, prodC_snoc]
    show _ = (grow (prodN cs n) cs).find? p
    rw [find_grow, find_grow]
    by_cases hn : n ∈ nm
    · rw [if_pos hn]
      have hd : Dep nm n fun r => cs.any fun c => p (r ++ [c]) := fun f g hf hg e => by
        show (cs.any fun c => p (f ++ [c])) = cs.any fun c => p (g ++ [c])
        congr 1
        exact funext fun c => (h.snoc c) f g hf hg e
      rw [find_prod hc nm n _ hd]
    · rw [if_neg hn]
      obtain ⟨c0, t, rfl⟩ : ∃ c0 t, cs = c0 :: t := by
        cases cs with
        | nil => exact absurd rfl hc
        | cons c0 t => exact ⟨c0, t, rfl⟩
      have flip : ∀ (r : List Str) (c : Str), r.length = n → p (r ++ [c]) = p (r ++ [c0]) := fun r c hr => h _ _ (by simp [hr]) (by simp [hr]) fun i hi => by
        rw [getD_snoc, getD_snoc, hr]
        by_cases h1 : i < n
        · rw [if_pos h1, if_pos h1]
        · have h3 : i ≠ n := fun e => hn (e ▸ hi)
          rw [if_neg h1, if_neg h1, if_neg h3, if_neg h3]
      have e1 : ∀ rows : List (List Str), (∀ r ∈ rows, r.length = n) → ∀ ds : List Str, (rows.find? fun r => (c0 :: ds).any fun c => p (r ++ [c])) = rows.find? fun r => p (r ++ [c0]) := fun rows hr ds => by
        induction rows with
        | nil => rfl
        | cons r rows ih =>
          rw [List.find?_cons, List.find?_cons, ih fun q hq => hr q (List.mem_cons_of_mem _ hq)]
          have hb : ((c0 :: ds).any fun c => p (r ++ [c])) = p (r ++ [c0]) := by
            rw [Bool.eq_iff_iff, List.any_eq_true]
            constructor
            · rintro ⟨c, _, hp⟩
              rwa [flip r c (hr r (List.mem_cons_self ..))] at hp
            · exact fun hp => ⟨c0, List.mem_cons_self .., hp⟩
          rw [hb]
      have l1 : ∀ r ∈ prodC (choices (c0 :: t) nm n), r.length = n := fun r hr => by
        have := prodC_len _ r hr
        rwa [choices_len] at this
      have e2 : ∀ (rows : List (List Str)), (∀ r ∈ rows, r.length = n) → ∀ ds : List Str, ((rows.find? fun r => (c0 :: ds).any fun c => p (r ++ [c])).bind fun r => ((c0 :: ds).find? fun c => p (r ++ [c])).map fun c => r ++ [c]) = (rows.find? fun r => p (r ++ [c0])).map fun r => r ++ [c0] := fun rows hr ds => by
        rw [e1 rows hr ds]
        cases e : rows.find? fun r => p (r ++ [c0]) with
        | none => rfl
        | some r =>
          have hp := List.find?_some e
          show ((c0 :: ds).find? fun c => p (r ++ [c])).map _ = some _
          rw [List.find?_cons]
          have hp : p (r ++ [c0]) = true := hp
          rw [hp]
          rfl
      rw [show (c0 :: t).take 1 = c0 :: [] from rfl, e2 _ l1, e2 _ (prodN_len _ n), find_prod hc nm n _ (h.snoc c0)]
/-- the steps of one rule that tell new facts, in order -/
def stepRow (cs : List Str) (S : List Fact) (i : Nat) (r : RuleT) (fs : List (List Str)) : List (Fact × Nat × List Str) := (fs.filter fun f => decide (factOf r.1 f ∉ S) && there S r.2 f).map fun f => (factOf r.1 f, i, f)
def lawFrom (cs : List Str) (S : List Fact) : Nat → List RuleT → List (Fact × Nat × List Str)
  | _, [] => []
  | i, r :: rs => stepRow cs S i r (prodN cs (wid r)) ++ lawFrom cs S (i + 1) rs
theorem lawFrom_snoc (cs : List Str) (S : List Fact) (r : RuleT) : ∀ (rs : List RuleT) (i : Nat), lawFrom cs S i (rs ++ [r]) = lawFrom cs S i rs ++ stepRow cs S (i + rs.length) r (prodN cs (wid r))
  | [], i => by
    show stepRow cs S i r _ ++ [] = [] ++ stepRow cs S (i + 0) r _
    rw [List.append_nil, List.nil_append]
    rfl
  | q :: rs, i => by
    show stepRow cs S i q _ ++ lawFrom cs S (i + 1) (rs ++ [r]) = (stepRow cs S i q _ ++ lawFrom cs S (i + 1) rs) ++ stepRow cs S (i + (rs.length + 1)) r _
    rw [lawFrom_snoc cs S r rs (i + 1), List.append_assoc, show i + 1 + rs.length = i + (rs.length + 1) by omega]
theorem fact_dep {nm : List Nat} {a : Atom} (h : ∀ i ∈ a.2, i ∈ nm) {f g : List Str} (e : ∀ i ∈ nm, f.getD i noS = g.getD i noS) : factOf a f = factOf a g := by
  unfold factOf
  congr 1
  exact List.map_congr_left fun i hi => e i (h i hi)
theorem lawFrom_head {cs : List Str} (hc : cs ≠ []) (S : List Fact) : ∀ (rs : List RuleT) (i : Nat), (∀ r ∈ rs, RuleOk (wid r) r) → (lawFrom cs S i rs).head? = freshIn wid cs S i rs
  | [], i, _ => rfl
  | r :: rs, i, h => by
    have ok := h r (List.mem_cons_self ..)
    have hm : ∀ a ∈ r.2, mx a.2 < (choices cs (names r) (wid r)).length := fun a ha => by
      rw [choices_len]
      have := (ok.1 a ha).2.1
      exact this _ (mx_mem (ok.1 a ha).1)
    have en : ∀ a ∈ r.1 :: r.2, ∀ i ∈ a.2, i ∈ names r := fun a ha i hi => List.mem_flatten.mpr ⟨a.2, List.mem_map.mpr ⟨a, ha, rfl⟩, hi⟩
    have e1 : (stepsOf r (wid r) cs S).find? (fun f => decide (factOf r.1 f ∉ S)) = (prodN cs (wid r)).find? fun f => decide (factOf r.1 f ∉ S) && there S r.2 f := by
      unfold stepsOf
      rw [fillW_eq S hm, List.find?_filter, ← find_prod hc (names r) (wid r) (fun f => decide (factOf r.1 f ∉ S) && there S r.2 f)]
      · congr 1
        funext f
        show decide (there S r.2 f = true ∧ decide (factOf r.1 f ∉ S) = true) = _
        rw [Bool.eq_iff_iff, decide_eq_true_iff, Bool.and_eq_true]
        exact And.comm
      · intro f g hf hg e
        have h1 : factOf r.1 f = factOf r.1 g := fact_dep (en r.1 (List.mem_cons_self ..)) e
        have h2 : there S r.2 f = there S r.2 g := by
          unfold there
          rw [Bool.eq_iff_iff, List.all_eq_true, List.all_eq_true]
          have q : ∀ a ∈ r.2, factOf a f = factOf a g := fun a ha => fact_dep (en a (List.mem_cons_of_mem _ ha)) e
          exact ⟨fun z a ha => by rw [← q a ha]; exact z a ha, fun z a ha => by rw [q a ha]; exact z a ha⟩
        show (decide (factOf r.1 f ∉ S) && there S r.2 f) = (decide (factOf r.1 g ∉ S) && there S r.2 g)
        rw [h1, h2]
    have e2 : ∀ (l : List (List Str)) (p : List Str → Bool) (F : List Str → Fact × Nat × List Str), ((l.filter p).map F).head? = (l.find? p).map F := fun l p F => by
      rw [List.head?_map, List.head?_filter]
    show (stepRow cs S i r (prodN cs (wid r)) ++ lawFrom cs S (i + 1) rs).head? = _
    rw [List.head?_append, lawFrom_head hc S rs (i + 1) fun q hq => h q (List.mem_cons_of_mem _ hq)]
    unfold stepRow
    rw [e2, ← e1]
    conv => rhs; unfold freshIn
    cases (stepsOf r (wid r) cs S).find? (fun f => decide (factOf r.1 f ∉ S)) with
    | none => rfl
    | some f => rfl
theorem stepRow_len (cs : List Str) (S : List Fact) (i : Nat) (r : RuleT) (fs : List (List Str)) : (stepRow cs S i r fs).length ≤ fs.length := by
  unfold stepRow
  rw [List.length_map]
  exact List.length_filter_le ..
theorem stepRow_snoc (cs : List Str) (S : List Fact) (i : Nat) (r : RuleT) (fs : List (List Str)) (f : List Str) : stepRow cs S i r (fs ++ [f]) = stepRow cs S i r fs ++ (if (decide (factOf r.1 f ∉ S) && there S r.2 f) = true then [(factOf r.1 f, i, f)] else []) := by
  unfold stepRow
  rw [List.filter_append, List.map_append]
  congr 1
  rw [List.filter_cons]
  split <;> rfl
theorem lawFrom_len {cs : List Str} (hc : cs.length ≤ 6) (S : List Fact) : ∀ (rs : List RuleT) (i : Nat), (∀ r ∈ rs, wid r ≤ 4) → (lawFrom cs S i rs).length ≤ 1296 * rs.length
  | [], i, _ => Nat.zero_le _
  | r :: rs, i, h => by
    show (stepRow cs S i r _ ++ lawFrom cs S (i + 1) rs).length ≤ _
    have h1 := stepRow_len cs S i r (prodN cs (wid r))
    have h2 := lawFrom_len hc S rs (i + 1) fun q hq => h q (List.mem_cons_of_mem _ hq)
    have h3 : (prodN cs (wid r)).length ≤ 6 ^ 4 := by
      rw [prodN_num]
      exact Nat.le_trans (Nat.pow_le_pow_left hc _) (Nat.pow_le_pow_right (by decide) (h r (List.mem_cons_self ..)))
    have h4 : (6 : Nat) ^ 4 = 1296 := by decide
    rw [List.length_append, List.length_cons]
    omega
/-! ### the facts there may be -/
def rowsF (n : Str) (rows : List (List Str)) : List Fact := rows.map fun r => (n, r)
def allF (cs : List Str) (known : List (Str × Nat)) : List Fact := known.flatMap fun k => rowsF k.1 (prodN cs k.2)
theorem allF_snoc (cs : List Str) (known : List (Str × Nat)) (k : Str × Nat) : allF cs (known ++ [k]) = allF cs known ++ rowsF k.1 (prodN cs k.2) := by
  unfold allF
  rw [List.flatMap_append]
  simp
theorem nodup_app {α : Type} {l m : List α} (h1 : l.Nodup) (h2 : m.Nodup) (h : ∀ x ∈ l, x ∉ m) : (l ++ m).Nodup := List.nodup_append.mpr ⟨h1, h2, fun a ha b hb e => h a ha (e ▸ hb)⟩
theorem grow_nodup {rows : List (List Str)} {cs : List Str} (hc : cs.Nodup) (h : rows.Nodup) : (grow rows cs).Nodup := by
  induction rows with
  | nil => exact List.nodup_nil
  | cons r rows ih =>
    obtain ⟨h1, h2⟩ := List.nodup_cons.mp h
    have e : grow (r :: rows) cs = (cs.map fun c => r ++ [c]) ++ grow rows cs := by
      unfold grow
      rw [List.flatMap_cons]
    rw [e]
    have h3 : (cs.map fun c => r ++ [c]).Nodup := List.pairwise_map.mpr (hc.imp fun hne e3 => hne (by simpa using List.append_cancel_left e3))
    refine nodup_app h3 (ih h2) fun x hx hx2 => ?_
    · obtain ⟨c, _, rfl⟩ := List.mem_map.mp hx
      obtain ⟨q, hq, hx3⟩ := List.mem_flatMap.mp hx2
      obtain ⟨d, _, e⟩ := List.mem_map.mp hx3
      have := List.append_inj' e rfl
      exact h1 (this.1 ▸ hq)
theorem prodN_nodup {cs : List Str} (hc : cs.Nodup) : ∀ n, (prodN cs n).Nodup
  | 0 => by simp [prodN]
  | n + 1 => grow_nodup hc (prodN_nodup hc n)
theorem allF_nodup {cs : List Str} (hc : cs.Nodup) : ∀ {known : List (Str × Nat)}, (known.map (·.1)).Nodup → (allF cs known).Nodup
  | [], _ => List.nodup_nil
  | k :: known, h => by
    rw [List.map_cons] at h
    obtain ⟨h1, h2⟩ := List.nodup_cons.mp h
    show (rowsF k.1 (prodN cs k.2) ++ allF cs known).Nodup
    refine nodup_app (List.pairwise_map.mpr ((prodN_nodup hc k.2).imp fun hne e => hne (by injection e))) (allF_nodup hc h2) fun x hx hx2 => ?_
    obtain ⟨r, _, rfl⟩ := List.mem_map.mp hx
    obtain ⟨q, hq, hx3⟩ := List.mem_flatMap.mp hx2
    obtain ⟨r2, _, e⟩ := List.mem_map.mp hx3
    injection e with e1 e2
    exact h1 (List.mem_map.mpr ⟨q, hq, e1⟩)
theorem mem_allF {cs : List Str} {known : List (Str × Nat)} {f : Fact} (h : f ∈ allF cs known) : ∃ k ∈ known, f.1 = k.1 ∧ f.2.length = k.2 ∧ ∀ x ∈ f.2, x ∈ cs := by
  obtain ⟨k, hk, h⟩ := List.mem_flatMap.mp h
  obtain ⟨r, hr, rfl⟩ := List.mem_map.mp h
  exact ⟨k, hk, rfl, prodN_len cs k.2 r hr, prodN_mem cs k.2 r hr⟩
theorem allF_len (cs : List Str) (known : List (Str × Nat)) : (allF cs known).length = (known.map fun k => cs.length ^ k.2).sum := by
  unfold allF
  rw [List.length_flatMap]
  congr 1
  refine List.map_congr_left fun k _ => ?_
  unfold rowsF
  rw [List.length_map, prodN_num]
end Cq
set_option Elab.async false
set_option linter.all false
set_option maxRecDepth 100000
set_option maxHeartbeats 4000000
/-! what the laws' own comparison asks, also of tuples and lists that are written or frozen -/
namespace Gx
open PySem PySem.Spec PyProof.Rows L2
def SameS (K : PySem.W.Frag) (H : Hp) : Nat → V → V → Prop
  | 0, v, d => leafV v = true ∧ v = d
  | n + 1, v, d => (leafV v = true ∧ v = d) ∨ ∃ (a b : Addr) (xs ys : List V), v = .ref a ∧ d = .ref b ∧ ((SqT K H a xs ∧ SqT K H b ys) ∨ (SqL K H a xs ∧ SqL K H b ys)) ∧
      xs.length = ys.length ∧ xs.length ≤ 1000000 ∧ ∀ (i : Nat) (x y : V), xs[i]? = some x → ys[i]? = some y → SameS K H n x y
theorem SameS.leaf {K : PySem.W.Frag} {H : Hp} {v : V} (h : leafV v = true) : ∀ n, SameS K H n v v
  | 0 => ⟨h, rfl⟩
  | _ + 1 => .inl ⟨h, rfl⟩
theorem SameS.xt {K : PySem.W.Frag} {H H' : Hp} (x : Xt H H') : ∀ (n : Nat) (v d : V), SameS K H n v d → SameS K H' n v d
  | 0, _, _, h => h
  | n + 1, v, d, h => by
    rcases h with h | ⟨a, b, xs, ys, rfl, rfl, ho, hl, hz, hi⟩
    · exact .inl h
    · refine .inr ⟨a, b, xs, ys, rfl, rfl, ?_, hl, hz, fun i u w e1 e2 => SameS.xt x n u w (hi i u w e1 e2)⟩
      rcases ho with ⟨h1, h2⟩ | ⟨h1, h2⟩
      · exact .inl ⟨x.sqT h1, x.sqT h2⟩
      · exact .inr ⟨x.sqL h1, x.sqL h2⟩
theorem SameS.two {K : PySem.W.Frag} {H : Hp} {n : Nat} {v d : V} (h : SameS K H n v d) : (leafV v = true ∧ v = d) ∨ ∃ m, n = m + 1 ∧ ∃ (a b : Addr) (xs ys : List V), v = .ref a ∧ d = .ref b ∧ ((SqT K H a xs ∧ SqT K H b ys) ∨ (SqL K H a xs ∧ SqL K H b ys)) ∧
      xs.length = ys.length ∧ xs.length ≤ 1000000 ∧ ∀ (i : Nat) (x y : V), xs[i]? = some x → ys[i]? = some y → SameS K H m x y := by
  cases n with
  | zero => exact .inl h
  | succ m =>
    rcases h with h | h
    · exact .inl h
    · exact .inr ⟨m, rfl, h⟩
def spSameS (K : PySem.W.Frag) (n : Nat) : Sp := fun vs H Q _ => ∃ v d, vs = [v, d] ∧ SameS K H n v d ∧ ∀ H1, Xt H H1 → Q (.bl true) H1
def SqE (K : PySem.W.Frag) (H : Hp) (a : Addr) (xs : List V) : Prop := SqT K H a xs ∨ SqL K H a xs
theorem SqE.xt {K : PySem.W.Frag} {H H' : Hp} (x : Xt H H') {a : Addr} {xs : List V} (h : SqE K H a xs) : SqE K H' a xs := h.elim (fun h => .inl (x.sqT h)) fun h => .inr (x.sqL h)
theorem SqE.sq {K : PySem.W.Frag} {H : Hp} {a : Addr} {xs : List V} (h : SqE K H a xs) : SqL K H a xs ∨ SqT K H a xs := h.elim .inr .inl
theorem rd_ixE {K : PySem.W.Frag} {H : Hp} {a : Addr} {xs : List V} {x : V} {i : Int} {Q : VK} (h : SqE K H a xs) (hx : atI xs i = some x) (q : Q x H) : rIx K (.ref a) (.int i) H Q := by
  rcases h with h | h
  · exact .inr (.inl ⟨a, xs, i, x, rfl, rfl, h, hx, q⟩)
  · exact .inl ⟨a, xs, i, x, rfl, rfl, h, hx, q⟩
theorem ty_sqT {K : PySem.W.Frag} {H : Hp} {a : Addr} {xs : List V} (h : SqT K H a xs) : TyX K H (.ref a) (.type "tuple") := by
  rcases h with (h | ⟨o, h⟩) | ⟨o, _, _, l, c, _⟩
  · exact .base (.tup h)
  · exact .fTuple h
  · exact .kTuple l c
theorem ty_sqL {K : PySem.W.Frag} {H : Hp} {a : Addr} {xs : List V} (h : SqL K H a xs) : TyX K H (.ref a) (.type "list") := by
  rcases h with (h | ⟨o, h⟩) | ⟨o, _, _, l, c, _⟩
  · exact .base (.lst h)
  · exact .base (.frz h)
  · exact .kList l c
end Gx
namespace Cq
open PySem PySem.Spec PyProof.Rows L2 Gx Lw Sn Dn Wq
section
variable {K : PySem.W.Frag} {H : Hp}
theorem same_strs {a b : Addr} {l : List Str} (ha : SqT K H a (l.map V.str)) (hb : SqT K H b (l.map V.str)) (hl : l.length ≤ 1000000) (n : Nat) : SameS K H (n + 1) (.ref a) (.ref b) :=
  .inr ⟨a, b, _, _, rfl, rfl, .inl ⟨ha, hb⟩, rfl, by rw [List.length_map]; exact hl, fun i x y e1 e2 => by
    rw [e1] at e2
    cases e2
    rw [List.getElem?_map] at e1
    obtain ⟨z, _, rfl⟩ := Option.map_eq_some_iff.mp e1
    exact .leaf rfl n⟩
theorem same_nats {a b : Addr} {l : List Nat} (ha : SqT K H a (nI l)) (hb : SqT K H b (nI l)) (hl : l.length ≤ 1000000) (n : Nat) : SameS K H (n + 1) (.ref a) (.ref b) :=
  .inr ⟨a, b, _, _, rfl, rfl, .inl ⟨ha, hb⟩, rfl, by rw [List.length_map]; exact hl, fun i x y e1 e2 => by
    rw [e1] at e2
    cases e2
    rw [List.getElem?_map] at e1
    obtain ⟨z, _, rfl⟩ := Option.map_eq_some_iff.mp e1
    exact .leaf rfl n⟩
theorem same_tup2 {a b : Addr} {x1 x2 y1 y2 : V} {n : Nat} (ha : SqT K H a [x1, x2]) (hb : SqT K H b [y1, y2]) (h1 : SameS K H n x1 y1) (h2 : SameS K H n x2 y2) : SameS K H (n + 1) (.ref a) (.ref b) :=
  .inr ⟨a, b, _, _, rfl, rfl, .inl ⟨ha, hb⟩, rfl, (show 2 ≤ 1000000 by decide), fun i x y e1 e2 => by
    match i with
    | 0 => cases e1; cases e2; exact h1
    | 1 => cases e1; cases e2; exact h2
    | i + 2 => cases e1⟩
theorem same_tup3 {a b : Addr} {x1 x2 x3 y1 y2 y3 : V} {n : Nat} (ha : SqT K H a [x1, x2, x3]) (hb : SqT K H b [y1, y2, y3]) (h1 : SameS K H n x1 y1) (h2 : SameS K H n x2 y2) (h3 : SameS K H n x3 y3) : SameS K H (n + 1) (.ref a) (.ref b) :=
  .inr ⟨a, b, _, _, rfl, rfl, .inl ⟨ha, hb⟩, rfl, (show 3 ≤ 1000000 by decide), fun i x y e1 e2 => by
    match i with
    | 0 => cases e1; cases e2; exact h1
    | 1 => cases e1; cases e2; exact h2
    | 2 => cases e1; cases e2; exact h3
    | i + 3 => cases e1⟩
theorem same_fact {f : Fact} {v d : V} (hv : NkV K H (fk f) v) (hd : NkV K H (fk f) d) (hl : f.2.length ≤ 1000000) (n : Nat) : SameS K H (n + 2) v d := by
  obtain ⟨a, b, rfl, h1, h2⟩ := fk_inv hv
  obtain ⟨a', b', rfl, h3, h4⟩ := fk_inv hd
  exact same_tup2 h1 h3 (.leaf rfl _) (same_strs h2 h4 hl n)
theorem same_fill {f : List Str} {v d : V} (hv : NkV K H (sk f) v) (hd : NkV K H (sk f) d) (hl : f.length ≤ 1000000) (n : Nat) : SameS K H (n + 1) v d := by
  obtain ⟨a, rfl, h1⟩ := sk_inv hv
  obtain ⟨a', rfl, h3⟩ := sk_inv hd
  exact same_strs h1 h3 hl n
theorem same_atom {f : Atom} {v d : V} (hv : NkV K H (ak f) v) (hd : NkV K H (ak f) d) (hl : f.2.length ≤ 1000000) (n : Nat) : SameS K H (n + 2) v d := by
  obtain ⟨a, b, rfl, h1, h2⟩ := ak_inv hv
  obtain ⟨a', b', rfl, h3, h4⟩ := ak_inv hd
  exact same_tup2 h1 h3 (.leaf rfl _) (same_nats h2 h4 hl n)
theorem same_step {x : Fact × Nat × List Str} {v d : V} (hv : DoneV K H x v) (hd : DoneV K H x d) (h1 : x.1.2.length ≤ 1000000) (h2 : x.2.2.length ≤ 1000000) (n : Nat) : SameS K H (n + 3) v d := by
  obtain ⟨t, fv, gv, rfl, a1, a2, a3⟩ := hv
  obtain ⟨t', fv', gv', rfl, b1, b2, b3⟩ := hd
  exact same_tup3 (.inl (.inl a1)) (.inl (.inl b1)) (same_fact a2 b2 h1 n) (.leaf rfl _) (same_fill a3 b3 h2 (n + 1))
theorem same_list {α : Type} {r q : α → V → Prop} {n : Nat} {l : List α} {a b : Addr} {us vs : List V} (ha : SqL K H a us) (hb : SqL K H b vs) (h1 : All2 r l us) (h2 : All2 q l vs) (hl : l.length ≤ 1000000) (h : ∀ x ∈ l, ∀ u v, r x u → q x v → SameS K H n u v) : SameS K H (n + 1) (.ref a) (.ref b) :=
  .inr ⟨a, b, _, _, rfl, rfl, .inr ⟨ha, hb⟩, by rw [h1.len, h2.len], by rw [h1.len]; exact hl, fun i x y e1 e2 => by
    obtain ⟨z, z1, z2⟩ := h1.at e1
    obtain ⟨w, w1, w2⟩ := h2.at e2
    rw [z1] at w1
    cases w1
    exact h z (List.mem_of_getElem? z1) _ _ z2 w2⟩
theorem all2_nk {α : Type} {f : α → NestedKey} : ∀ {l : List α} {us : List V}, NkA K H (l.map f) us → All2 (fun x v => NkV K H (f x) v) l us
  | [], us, h => by
    unfold NkA at h
    subst h
    exact .nil
  | x :: l, us, h => by
    unfold NkA at h
    obtain ⟨y, r, rfl, h1, h2⟩ := h
    exact .cons h1 (all2_nk h2)
theorem all2_rule : ∀ {l : List RuleT} {us : List V}, RuleA K H l us → All2 (fun x v => RuleV K H x v) l us
  | _, _, .nil => .nil
  | _, _, .cons h1 h2 => .cons h1 (all2_rule h2)
theorem all2_step {ln : RuleT → Nat} : ∀ {l : List RuleT} {us : List V}, StepA K H ln l us → All2 (fun x v => StepV K H x (ln x) v) l us
  | _, _, .nil => .nil
  | _, _, .cons h1 h2 => .cons h1 (all2_step h2)
theorem same_rule {r : RuleT} {v d : V} (hv : RuleV K H r v) (hd : RuleV K H r d) (h1 : r.1.2.length ≤ 1000000) (h2 : r.2.length ≤ 1000000) (h3 : ∀ a ∈ r.2, a.2.length ≤ 1000000) : SameS K H 4 v d := by
  obtain ⟨t, hh, q, ws, rfl, a1, a2, a3, a4⟩ := hv
  obtain ⟨t', hh', q', ws', rfl, b1, b2, b3, b4⟩ := hd
  exact same_tup2 (.inl (.inl a1)) (.inl (.inl b1)) (same_atom a2 b2 h1 1) (same_list (.inl (.inl a3)) (.inl (.inl b3)) (all2_nk a4) (all2_nk b4) h2 fun x hx u v z1 z2 => same_atom z1 z2 (h3 x hx) 0)
theorem same_rules {rs : List RuleT} {a b : Addr} {us vs : List V} (ha : SqL K H a us) (hb : SqL K H b vs) (h1 : RuleA K H rs us) (h2 : RuleA K H rs vs) (hl : rs.length ≤ 1000000) (h : ∀ r ∈ rs, r.1.2.length ≤ 1000000 ∧ r.2.length ≤ 1000000 ∧ ∀ a ∈ r.2, a.2.length ≤ 1000000) : SameS K H 5 (.ref a) (.ref b) :=
  same_list ha hb (all2_rule h1) (all2_rule h2) hl fun x hx u v z1 z2 => same_rule z1 z2 (h x hx).1 (h x hx).2.1 (h x hx).2.2
end
end Cq
set_option Elab.async false
set_option linter.all false
set_option maxRecDepth 100000
set_option maxHeartbeats 4000000
/-! what the laws' own parts promise: words, rules, tuples, data -/
namespace Cq
open PySem PySem.Spec PyProof.Rows L2 Gx Lw Sn Dn Wq
/-! ### words -/
structure Lt (n : Nat) (w : Str) : Prop where
  len : w.length ≤ n
  let_ : ∀ c ∈ cl w, c ∈ letters
theorem Lt.mono {m n : Nat} {w : Str} (h : Lt m w) (e : m ≤ n) : Lt n w := ⟨Nat.le_trans h.len e, h.let_⟩
theorem len_app (w u : Str) : (w ++ u).length = w.length + u.length := by
  show (w ++ u).cps.size = _
  rw [show (w ++ u).cps = w.cps ++ u.cps from rfl, Array.size_append]
  rfl
theorem cl_app (w u : Str) : cl (w ++ u) = cl w ++ cl u := by
  show (w ++ u).cps.toList = _
  rw [show (w ++ u).cps = w.cps ++ u.cps from rfl, Array.toList_append]
theorem Lt.app {m n : Nat} {w u : Str} (h : Lt m w) (k : Lt n u) : Lt (m + n) (w ++ u) := ⟨by rw [len_app]; exact Nat.add_le_add h.len k.len, fun c hc => by
  rw [cl_app] at hc
  exact (List.mem_append.mp hc).elim (h.let_ c) (k.let_ c)⟩
theorem lt_sign {c : Nat} (h : c ∈ letters) : Lt 1 ⟨#[c]⟩ := ⟨Nat.le_refl _, fun d hd => by
  have : d = c := by simpa using hd
  exact this ▸ h⟩
theorem letters_lt : ∀ c ∈ letters, c < 128 := by decide
theorem Lt.wd {n : Nat} {w : Str} (h : Lt n w) (hn : n ≤ 100000) : Wd w := ⟨Nat.le_trans h.len hn, fun c hc => letters_lt c (h.let_ c hc)⟩
theorem Lt.name {w : Str} (h : Lt 12 w) (h1 : 1 ≤ w.length) : nameB w = true := by
  unfold nameB lenB
  have h2 := h.len
  rw [decide_eq_true (by omega), decide_eq_true (by omega), Bool.true_and, Bool.true_and, List.all_eq_true]
  exact fun c hc => decide_eq_true (h.let_ c hc)
/-- a word with z's behind it -/
def zs (w : Str) : Nat → Str
  | 0 => w
  | n + 1 => zs w n ++ Str.ofString "z"
theorem zs_len (w : Str) : ∀ n, (zs w n).length = w.length + n
  | 0 => rfl
  | n + 1 => by
    show (zs w n ++ Str.ofString "z").length = _
    rw [len_app, zs_len w n]
    rfl
theorem zs_lt {m : Nat} {w : Str} (h : Lt m w) : ∀ n, Lt (m + n) (zs w n)
  | 0 => h
  | n + 1 => by
    have hz : Lt 1 (Str.ofString "z") := ⟨by decide, by decide⟩
    exact (zs_lt h n).app hz
theorem sub_len {α : Type} [DecidableEq α] : ∀ {l m : List α}, l.Nodup → (∀ x ∈ l, x ∈ m) → l.length ≤ m.length
  | [], m, _, _ => Nat.zero_le _
  | x :: l, m, h, hs => by
    obtain ⟨h1, h2⟩ := List.nodup_cons.mp h
    have h3 : l.length ≤ (m.erase x).length := sub_len h2 fun y hy => by
      have hne : y ≠ x := fun e => h1 (e ▸ hy)
      exact (List.mem_erase_of_ne hne).mpr (hs y (List.mem_cons_of_mem _ hy))
    have hx := hs x (List.mem_cons_self ..)
    rw [List.length_erase_of_mem hx] at h3
    have := List.length_pos_of_mem hx
    rw [List.length_cons]
    omega
theorem zs_out {w : Str} {ws : List Str} {e n : Nat} (hl : ws.length < n) (h : ∀ s < e, zs w s ∈ ws) (hn : e < n → zs w e ∉ ws) (hle : e ≤ n) : zs w e ∉ ws := by
  by_cases he : e < n
  · exact hn he
  · exfalso
    have e1 : e = n := by omega
    have nd : ((List.range n).map (zs w)).Nodup := List.pairwise_map.mpr (List.nodup_range.imp fun {a b} hne e => hne (by
      have := congrArg Str.length e
      rw [zs_len, zs_len] at this
      omega))
    have := sub_len nd fun x hx => by
      obtain ⟨s, hs, rfl⟩ := List.mem_map.mp hx
      exact h s (by rw [e1]; exact List.mem_range.mp hs)
    rw [List.length_map, List.length_range] at this
    omega
def spWords (K : PySem.W.Frag) : Sp := fun vs H Q _ => ∃ (d : Addr), vs = [.ref d, .int 8] ∧ Dr H d ∧ ∀ H1 l (ws : List Str), Xd d H H1 → H l = none → H1 l = some (.lst (ws.map V.str)) → ws.length = 8 → ws.Nodup → (∀ w ∈ ws, nameB w = true ∧ Wd w) → Q (.ref l) H1
/-! ### tuples -/
def spTup (K : PySem.W.Frag) : Sp := fun vs H Q _ => ∃ (q : Addr) (cs : List Str) (m : Nat), vs = [.ref q, .int (m : Int)] ∧ SqL K H q (cs.map V.str) ∧ cs.length ≤ 7 ∧ m ≤ 4 ∧
  ∀ H1 l us, Xt H H1 → H l = none → H1 l = some (.lst us) → NkA K H1 ((prodN cs m).map sk) us → Q (.ref l) H1
/-! ### rules -/
def rkN (k : Str × Nat) : NestedKey := rk (k.1, (k.2 : Int))
/-- a rule whose names are below m -/
structure RuleG (m : Nat) (r : RuleT) : Prop where
  ne : r.2 ≠ []
  n : r.2.length ≤ 3
  b : ∀ a ∈ r.2, a.2 ≠ [] ∧ a.2.length ≤ 3 ∧ ∀ i ∈ a.2, i < m
  h : ∀ i ∈ r.1.2, ∃ a ∈ r.2, i ∈ a.2
  hn : r.1.2.length ≤ 3
  hw : Wd r.1.1
theorem RuleG.wd {m : Nat} {r : RuleT} (g : RuleG m r) : 1 ≤ wid r ∧ wid r ≤ m := by
  have hm : ∀ a ∈ r.2, mx a.2 < m := fun a ha => (g.b a ha).2.2 _ (mx_mem (g.b a ha).1)
  have hne : (r.2.map fun a => mx a.2) ≠ [] := fun z => g.ne (List.map_eq_nil_iff.mp z)
  obtain ⟨a, ha, e⟩ := List.mem_map.mp (mx_mem hne)
  have := hm a ha
  unfold Cq.wid
  omega
theorem RuleG.ok {m : Nat} {r : RuleT} (g : RuleG m r) : RuleOk (wid r) r := by
  have hb : ∀ a ∈ r.2, ∀ i ∈ a.2, i < Cq.wid r := fun a ha i hi => by
    have h1 := le_mx hi
    have h2 : mx a.2 ≤ mx (r.2.map fun a => mx a.2) := le_mx (List.mem_map.mpr ⟨a, ha, rfl⟩)
    unfold Cq.wid
    omega
  refine ⟨fun a ha => ⟨(g.b a ha).1, hb a ha, by have := (g.b a ha).2.1; omega⟩, fun i hi => ?_, by have := g.hn; omega, by have := g.n; omega⟩
  obtain ⟨a, ha, hi⟩ := g.h i hi
  exact hb a ha i hi
def KnOk (known : List (Str × Nat)) : Prop := known ≠ [] ∧ known.length ≤ 1000 ∧ ∀ k ∈ known, 1 ≤ k.2 ∧ k.2 ≤ 3
/-- a rule, and of its list's place F -/
def RuleN (K : PySem.W.Frag) (F : Addr → Prop) (H : Hp) (r : RuleT) (v : V) : Prop := ∃ t hv q ws, v = .ref t ∧ H t = some (.tup [hv, .ref q]) ∧ NkV K H (ak r.1) hv ∧ H q = some (.lst ws) ∧ NkA K H (r.2.map ak) ws ∧ F q
def spRule (K : PySem.W.Frag) : Sp := fun vs H Q _ => ∃ (d q : Addr) (m : Nat) (known : List (Str × Nat)) (kv : List V), vs = [.ref d, .ref q, .int (m : Int)] ∧ Dr H d ∧ q ≠ d ∧ H q = some (.lst kv) ∧ NkA K H (known.map rkN) kv ∧ KnOk known ∧ (∀ k ∈ known, Wd k.1) ∧ 1 ≤ m ∧
  ∀ H1 v r, Xd d H H1 → RuleN K (fun z => H z = none) H1 r v → RuleG m r → (r.1.1, r.1.2.length) ∈ known → Q v H1
def spLWidth (K : PySem.W.Frag) : Sp := fun vs H Q _ => ∃ (v : V) (r : RuleT), vs = [v] ∧ RuleV K H r v ∧ r.2 ≠ [] ∧ (∀ a ∈ r.2, a.2 ≠ []) ∧ r.2.length ≤ 1000 ∧ ∀ H1, Xt H H1 → Q (.int ((wid r : Nat) : Int)) H1
def spGives (P : Program) (w : World) (K : PySem.W.Frag) : Sp := fun vs H Q _ => ∃ (v u : V) (d : Addr) (r : RuleT) (fl : List Str) (S : List Fact), vs = [v, u, .ref d] ∧ RuleV K H r v ∧ NkV K H (sk fl) u ∧ Tb P w K H d S ∧ Fits fl.length r.2 ∧ r.2.length ≤ 1000 ∧ ∀ H1, Xt H H1 → Q (.bl (there S r.2 fl)) H1
/-! ### data -/
def kS (s : String) : Key := Sum.inr (Str.ofString s)
def datK (a1 : Addr) (u : V) (a3 a4 a5 : Addr) : List (Key × V) := [(kS "known", .ref a1), (kS "unknown", u), (kS "constants", .ref a3), (kS "facts", .ref a4), (kS "rules", .ref a5)]
structure DatP (K : PySem.W.Frag) (H : Hp) (known : List (Str × Nat)) (cs : List Str) (fs : List Fact) (rs : List RuleT) (a1 a3 a4 a5 : Addr) : Prop where
  k : ∃ kv, H a1 = some (.lst kv) ∧ NkA K H (known.map rkN) kv
  c : H a3 = some (.lst (cs.map V.str))
  f : ∃ fv, H a4 = some (.lst fv) ∧ NkA K H (fs.map fk) fv
  r : ∃ rv, H a5 = some (.lst rv) ∧ RuleA K H rs rv
structure DatAt (K : PySem.W.Frag) (H : Hp) (dd : Addr) (known : List (Str × Nat)) (cs : List Str) (fs : List Fact) (rs : List RuleT) (a1 : Addr) (u : V) (a3 a4 a5 : Addr) : Prop where
  d : H dd = some (.dK (datK a1 u a3 a4 a5))
  p : DatP K H known cs fs rs a1 a3 a4 a5
structure DatOk (known : List (Str × Nat)) (cs : List Str) (fs : List Fact) (rs : List RuleT) : Prop where
  kn : KnOk known
  nd : (known.map (·.1)).Nodup
  kw : ∀ k ∈ known, Wd k.1
  all : (allF cs known).length ≤ 200
  c1 : 1 ≤ cs.length
  c6 : cs.length ≤ 6
  cn : cs.Nodup
  cw : ∀ c ∈ cs, nameB c = true ∧ Wd c
  fn : fs.Nodup
  fa : ∀ f ∈ fs, f ∈ allF cs known
  r20 : rs.length ≤ 20
  rg : ∀ r ∈ rs, ∃ m, m ≤ 4 ∧ RuleG m r
  rk : ∀ r ∈ rs, (r.1.1, r.1.2.length) ∈ known
theorem DatOk.flen {known : List (Str × Nat)} {cs : List Str} {fs : List Fact} {rs : List RuleT} (h : DatOk known cs fs rs) : fs.length ≤ 200 := Nat.le_trans (sub_len h.fn h.fa) h.all
theorem DatOk.w4 {known : List (Str × Nat)} {cs : List Str} {fs : List Fact} {rs : List RuleT} (h : DatOk known cs fs rs) : ∀ r ∈ rs, wid r ≤ 4 := fun r hr => by
  obtain ⟨m, hm, g⟩ := h.rg r hr
  exact Nat.le_trans g.wd.2 hm
section
variable {K : PySem.W.Frag} {H H' : Hp} {dd a1 a3 a4 a5 : Addr} {u : V} {known : List (Str × Nat)} {cs : List Str} {fs : List Fact} {rs : List RuleT}
theorem DatP.xt (x : Xt H H') (h : DatP K H known cs fs rs a1 a3 a4 a5) : DatP K H' known cs fs rs a1 a3 a4 a5 := by
  obtain ⟨⟨kv, k1, k2⟩, c, ⟨fv, f1, f2⟩, ⟨rv, r1, r2⟩⟩ := h
  exact ⟨⟨kv, x.lst k1, nkA_tk (.of_xt x) _ _ k2⟩, x.lst c, ⟨fv, x.lst f1, nkA_tk (.of_xt x) _ _ f2⟩, ⟨rv, x.lst r1, r2.lk (.of_xt x)⟩⟩
theorem DatAt.xt (x : Xt H H') (h : DatAt K H dd known cs fs rs a1 u a3 a4 a5) : DatAt K H' dd known cs fs rs a1 u a3 a4 a5 := ⟨x.keep _ _ h.d fun _ => nofun, h.p.xt x⟩
theorem DatAt.gK (h : DatAt K H dd known cs fs rs a1 u a3 a4 a5) : DGet H dd (.str (Str.ofString "known")) (some (.ref a1)) := DGet.k (k := kS "known") h.d
theorem DatAt.gC (h : DatAt K H dd known cs fs rs a1 u a3 a4 a5) : DGet H dd (.str (Str.ofString "constants")) (some (.ref a3)) := DGet.k (k := kS "constants") h.d
theorem DatAt.gF (h : DatAt K H dd known cs fs rs a1 u a3 a4 a5) : DGet H dd (.str (Str.ofString "facts")) (some (.ref a4)) := DGet.k (k := kS "facts") h.d
theorem DatAt.gR (h : DatAt K H dd known cs fs rs a1 u a3 a4 a5) : DGet H dd (.str (Str.ofString "rules")) (some (.ref a5)) := DGet.k (k := kS "rules") h.d
end
def spLSteps (P : Program) (w : World) (K : PySem.W.Frag) : Sp := fun vs H Q _ => ∃ (dd d a1 a3 a4 a5 : Addr) (u : V) (known : List (Str × Nat)) (cs : List Str) (fs : List Fact) (rs : List RuleT) (S : List Fact), vs = [.ref dd, .ref d] ∧ DatAt K H dd known cs fs rs a1 u a3 a4 a5 ∧ DatOk known cs fs rs ∧ Tb P w K H d S ∧
  ∀ H1 l us, Xt H H1 → H l = none → H1 l = some (.lst us) → All2 (fun x v => DoneV K H1 x v) (lawFrom cs S 0 rs) us → Q (.ref l) H1
/-- a round -/
def rndF (cs : List Str) (rs : List RuleT) (S : List Fact) : List Fact := (lawFrom cs S 0 rs).foldl (fun S x => addF S x.1) S
def itF (cs : List Str) (rs : List RuleT) (S : List Fact) : Nat → List Fact
  | 0 => S
  | n + 1 => rndF cs rs (itF cs rs S n)
def spLClosed (P : Program) (w : World) (K : PySem.W.Frag) : Sp := fun vs H Q _ => ∃ (dd a1 a3 a4 a5 : Addr) (u : V) (known : List (Str × Nat)) (cs : List Str) (fs : List Fact) (rs : List RuleT), vs = [.ref dd] ∧ DatAt K H dd known cs fs rs a1 u a3 a4 a5 ∧ DatOk known cs fs rs ∧
  ∀ H1 d n, Xt H H1 → H d = none → Tb P w K H1 d (itF cs rs (ddF fs) n) → (n = 200 ∨ lawFrom cs (itF cs rs (ddF fs) n) 0 rs = []) → Q (.ref d) H1
def spInOrder (P : Program) (w : World) (K : PySem.W.Frag) : Sp := fun vs H Q _ => ∃ (dd d a1 a3 a4 a5 : Addr) (u : V) (known : List (Str × Nat)) (cs : List Str) (fs : List Fact) (rs : List RuleT) (S : List Fact), vs = [.ref dd, .ref d] ∧ DatAt K H dd known cs fs rs a1 u a3 a4 a5 ∧ DatOk known cs fs rs ∧ Tb P w K H d S ∧
  ∀ H1 l us, Xt H H1 → H l = none → H1 l = some (.lst us) → NkA K H1 (((allF cs known).filter fun f => decide (f ∈ S)).map fk) us → Q (.ref l) H1
def spData (K : PySem.W.Frag) : Sp := fun vs H Q _ => ∃ (d : Addr), vs = [.ref d] ∧ Dr H d ∧ ∀ H1 dd a1 u a3 a4 a5 known cs fs rs, Xd d H H1 → H dd = none → dd ≠ d → DatAt K H1 dd known cs fs rs a1 u a3 a4 a5 → DatOk known cs fs rs → (∀ z ∈ [a1, a3, a4, a5], z ≠ d ∧ z ≠ dd) → Q (.ref dd) H1
def spCopied (K : PySem.W.Frag) : Sp := fun vs H Q _ => ∃ (p : Addr) (rs : List RuleT) (rv : List V), vs = [.ref p] ∧ SqL K H p rv ∧ RuleA K H rs rv ∧ rs.length ≤ 1000 ∧ ∀ H1 l vs, Xt H H1 → H l = none → H1 l = some (.lst vs) → RuleA K H1 rs vs → Q (.ref l) H1
end Cq
namespace Cq
open PySem PySem.Spec PyProof.Rows L2 Gx Lw Sn Dn Wq
/-- a copy of a rule: its head was there in H0; its list of atoms is another than the one at D -/
def RuleC (K : PySem.W.Frag) (H0 H : Hp) (D : Addr) (r : RuleT) (v : V) : Prop := ∃ t hv q ws, v = .ref t ∧ H t = some (.tup [hv, .ref q]) ∧ NkV K H0 (ak r.1) hv ∧ H q = some (.lst ws) ∧ NkA K H0 (r.2.map ak) ws ∧ q ≠ D
section
variable {K : PySem.W.Frag} {H0 H H' : Hp} {D : Addr} {r : RuleT} {v : V}
theorem RuleC.xt (x : Xt H H') (h : RuleC K H0 H D r v) : RuleC K H0 H' D r v := by
  obtain ⟨t, hv, q, ws, e, h1, h2, h3, h4, h5⟩ := h
  exact ⟨t, hv, q, ws, e, x.tup h1, h2, x.lst h3, h4, h5⟩
theorem RuleC.mut {l : List V} {o : HO} (e : H D = some (.lst l)) (h : RuleC K H0 H D r v) : RuleC K H0 (upd H D o) D r v := by
  obtain ⟨t, hv, q, ws, e2, h1, h2, h3, h4, h5⟩ := h
  exact ⟨t, hv, q, ws, e2, by rw [upd_ne fun z => by rw [z, e] at h1; cases h1]; exact h1, h2, by rw [upd_ne h5]; exact h3, h4, h5⟩
theorem ruleA_of (x : Xt H0 H) : ∀ {rs : List RuleT} {vs : List V}, All2 (fun r v => RuleC K H0 H D r v) rs vs → RuleA K H rs vs
  | _, _, .nil => .nil
  | _, _, .cons ⟨t, hv, q, ws, e, h1, h2, h3, h4, _⟩ h => .cons ⟨t, hv, q, ws, e, h1, nkV_tk (.of_xt x) _ _ h2, h3, nkA_tk (.of_xt x) _ _ h4⟩ (ruleA_of x h)
end
end Cq
namespace Cq
open PySem PySem.Spec PyProof.Rows L2 Gx Lw Sn Dn Wq
theorem DoneV.tk {K : PySem.W.Frag} {H H' : Hp} {x : Fact × Nat × List Str} {v : V} (t : Tk H H') (h : DoneV K H x v) : DoneV K H' x v := by
  obtain ⟨p, fv, gv, e, h1, h2, h3⟩ := h
  exact ⟨p, fv, gv, e, t.t _ _ h1, nkV_tk t _ _ h2, nkV_tk t _ _ h3⟩
theorem allF_take (cs : List Str) (known : List (Str × Nat)) (i : Nat) : (allF cs (known.take i)).length ≤ (allF cs known).length := by
  have e : allF cs known = allF cs (known.take i) ++ allF cs (known.drop i) := by
    unfold allF
    rw [← List.flatMap_append, List.take_append_drop]
  rw [e, List.length_append]
  omega
theorem addF_foldl_len (rows : List (Fact × Nat × List Str)) : ∀ S : List Fact, (rows.foldl (fun S x => addF S x.1) S).length ≤ S.length + rows.length := by
  induction rows with
  | nil => exact fun S => Nat.le_refl _
  | cons x rows ih =>
    intro S
    rw [List.foldl_cons, List.length_cons]
    have h1 := ih (addF S x.1)
    have h2 := addF_len S x.1
    omega
theorem num6 {cs : List Str} (h : cs.length ≤ 6) {n : Nat} (hn : n ≤ 4) : (prodN cs n).length ≤ 1296 := by
  rw [prodN_num]
  exact Nat.le_trans (Nat.pow_le_pow_left h n) (Nat.le_trans (Nat.pow_le_pow_right (by decide) hn) (by decide))
theorem itF_len {known : List (Str × Nat)} {cs : List Str} {fs : List Fact} {rs : List RuleT} (ok : DatOk known cs fs rs) : ∀ n, (itF cs rs (ddF fs) n).length ≤ 200 + 25920 * n
  | 0 => by
    have h1 := ddF_len fs
    have h2 := ok.flen
    show (ddF fs).length ≤ _
    omega
  | n + 1 => by
    have h1 := itF_len ok n
    have h2 := addF_foldl_len (lawFrom cs (itF cs rs (ddF fs) n) 0 rs) (itF cs rs (ddF fs) n)
    have h3 := lawFrom_len ok.c6 (itF cs rs (ddF fs) n) rs 0 ok.w4
    have h4 := ok.r20
    show (rndF cs rs (itF cs rs (ddF fs) n)).length ≤ _
    unfold rndF
    omega
end Cq
namespace Cq
open PySem PySem.Spec PyProof.Rows L2 Gx Lw Sn Dn Wq
theorem nats_of {p : Nat → Prop} : ∀ {ys : List V}, (∀ v ∈ ys, ∃ n : Nat, p n ∧ v = .int (n : Int)) → ∃ l : List Nat, ys = nI l ∧ ∀ i ∈ l, p i
  | [], _ => ⟨[], rfl, fun i hi => by cases hi⟩
  | y :: ys, h => by
    obtain ⟨n, hn, rfl⟩ := h y (List.mem_cons_self ..)
    obtain ⟨l, rfl, hl⟩ := nats_of (fun v hv => h v (List.mem_cons_of_mem _ hv))
    exact ⟨n :: l, rfl, fun i hi => (List.mem_cons.mp hi).elim (fun e => e ▸ hn) (hl i)⟩
theorem at_nat {α : Type} {xs : List α} {r : Int} (h0 : 0 ≤ r) (h1 : r < xs.length) : ∃ (n : Nat) (x : α), r = n ∧ xs[n]? = some x ∧ n < xs.length ∧ atI xs r = some x := by
  obtain ⟨n, rfl⟩ : ∃ n : Nat, r = n := ⟨r.toNat, by omega⟩
  have hn : n < xs.length := by omega
  exact ⟨n, xs[n], rfl, List.getElem?_eq_getElem hn, hn, atI_nat (List.getElem?_eq_getElem hn)⟩
end Cq
namespace Cq
open PySem PySem.Spec PyProof.Rows L2 Gx Lw Sn Dn Wq
section
variable {K : PySem.W.Frag} {H H' : Hp} {F : Addr → Prop} {r : RuleT} {v : V}
theorem RuleN.imp {G : Addr → Prop} (f : ∀ q, H q ≠ none → F q → G q) (h : RuleN K F H r v) : RuleN K G H r v := by
  obtain ⟨t, hv, q, ws, e, h1, h2, h3, h4, h5⟩ := h
  exact ⟨t, hv, q, ws, e, h1, h2, h3, h4, f q (by rw [h3]; exact fun z => by cases z) h5⟩
theorem RuleN.xd {d : Addr} (hd : Dr H d) (x : Xd d H H') (f : ∀ q, F q → q ≠ d) (h : RuleN K F H r v) : RuleN K F H' r v := by
  obtain ⟨t, hv, q, ws, e, h1, h2, h3, h4, h5⟩ := h
  have tk := Tk.of_xd hd x
  exact ⟨t, hv, q, ws, e, tk.t _ _ h1, nkV_tk tk _ _ h2, x.lst (f q h5) h3, nkA_tk tk _ _ h4, h5⟩
theorem RuleN.mut {D : Addr} {l : List V} {o : HO} (e : H D = some (.lst l)) (f : ∀ q, F q → q ≠ D) (h : RuleN K F H r v) : RuleN K F (upd H D o) r v := by
  obtain ⟨t, hv, q, ws, e2, h1, h2, h3, h4, h5⟩ := h
  have tk : Tk H (upd H D o) := .lst e
  exact ⟨t, hv, q, ws, e2, tk.t _ _ h1, nkV_tk tk _ _ h2, by rw [upd_ne (f q h5)]; exact h3, nkA_tk tk _ _ h4, h5⟩
theorem RuleN.toV (h : RuleN K F H r v) : RuleV K H r v := by
  obtain ⟨t, hv, q, ws, e, h1, h2, h3, h4, _⟩ := h
  exact ⟨t, hv, q, ws, e, h1, h2, h3, h4⟩
theorem ruleA_n : ∀ {rs : List RuleT} {vs : List V}, All2 (fun r v => RuleN K F H r v) rs vs → RuleA K H rs vs
  | _, _, .nil => .nil
  | _, _, .cons h1 h2 => .cons h1.toV (ruleA_n h2)
end
/-- a comprehension over a range whose items are drawn -/
theorem lcdG {α : Type} {d : Addr} {lo : Int} {m : Nat} {g : TG} {tt : TT} {te : TE} {vs : List Nat} {σ : L2.St} {H1 : Hp} {D : Addr} {Qd : Hp → Prop} (R : Nat → α → Prop) (r : α → Hp → V → Prop) (hd : Dr H1 d) (hD : H1 D = none) (hm : m ≤ sizeLine)
    (hX : ∀ H H2 a y, Dr H d → Xd d H H2 → r a H y → r a H2 y) (hU : ∀ H acc a y o, H D = some (.lst acc) → r a H y → r a (upd H D o) y)
    (hs : ∀ (i : Nat) H' (Y : V → Hp → Prop) (N : Hp → Prop), i < m → Xd d H1 H' → (∃ acc, H' D = some (.lst acc)) → (∀ H2 v a, Xd d H' H2 → R i a → r a H2 v → Y v H2) →
      g (.int (lo + i)) (wipe σ vs) H' fun σ2 H2 => wipe σ2 vs = wipe σ vs ∧ tt σ2 H2 fun b H3 => if b = true then te σ2 H3 Y else N H3)
    (hq : ∀ H' ys l, Xd d H1 H' → H' D = some (.lst ys) → l.length = m → (∀ (i : Nat) a, l[i]? = some a → R i a) → All2 (fun a y => r a H' y) l ys → Qd H') :
    ∃ W : Nat → Nat → Hp → Prop, (∃ m, W 0 m (upd H1 D (.lst []))) ∧ ∀ i m' H, W i m' H →
      ((Itr lo m).stop i H ∧ Qd H) ∨ ((Itr lo m).go i H ∧ ∃ Nx : Hp → Prop, (∀ H', Nx H' → ∃ m'', m'' < m' ∧ W (i + 1) m'' H') ∧ ∀ v H', (Itr lo m).yld i H v H' → g v (wipe σ vs) H' fun σ2 H2 => wipe σ2 vs = wipe σ vs ∧ tt σ2 H2 fun b H3 =>
        if b = true then te σ2 H3 fun y H4 => ∃ acc, H4 D = some (.lst acc) ∧ acc.length < sizeLine ∧ Nx (upd H4 D (.lst (acc ++ [y]))) else Nx H3) := by
  have hdD : d ≠ D := hd.ne_none hD
  have hDd : D ≠ d := fun z => hdD z.symm
  refine walk_rng (fun i H' => Xd d H1 H' ∧ ∃ (ys : List V) (l : List α), H' D = some (.lst ys) ∧ l.length = i ∧ (∀ (j : Nat) a, l[j]? = some a → R j a) ∧ All2 (fun a y => r a H' y) l ys) ⟨(Xd.refl hd).mut hdD hD, [], [], upd_same .., rfl, (fun j a e => by cases e), .nil⟩ (fun i H' hi hp => ?_) (fun H' hp => ?_)
  · obtain ⟨xd, ys, l, e, hl, hR, hA⟩ := hp
    refine hs i H' _ _ hi xd ⟨_, e⟩ fun H2 v a x2 hr hv => ⟨ys, x2.lst hDd e, by rw [hA.len]; omega, (xd.trans x2).mut hdD hD, ys ++ [v], l ++ [a], upd_same .., by simp [hl], fun j b hb => ?_, ?_⟩
    · by_cases hj : j < l.length
      · rw [List.getElem?_append_left hj] at hb
        exact hR j b hb
      · have hj2 : j < (l ++ [a]).length := (List.getElem?_eq_some_iff.mp hb).1
        rw [List.length_append] at hj2
        have : j = l.length := by
          have : [a].length = 1 := rfl
          omega
        rw [this, List.getElem?_append_right (Nat.le_refl _), Nat.sub_self] at hb
        cases hb
        rw [this, hl]
        exact hr
    · exact (hA.imp fun a y z => hU _ _ _ _ _ (x2.lst hDd e) (hX _ _ _ _ xd.dr x2 z)).snoc (hU _ _ _ _ _ (x2.lst hDd e) hv)
  · obtain ⟨xd, ys, l, e, hl, hR, hA⟩ := hp
    exact hq H' ys l xd e hl hR hA
end Cq
namespace Cq
open PySem PySem.Spec PyProof.Rows L2 Gx Lw Sn Dn Wq
theorem sIx_nat (n k : Nat) (d : Nat) : HT.sIx n d (some ((k : Nat) : Int)) = min k n := by
  unfold HT.sIx
  first | (simp; omega) | (split <;> omega) | omega
theorem cut_drop (xs : List V) (k : Nat) : cutV xs (some ((k : Nat) : Int)) none = xs.drop k := by
  unfold cutV
  rw [sIx_nat]
  have e : HT.sIx xs.length xs.length none = xs.length := rfl
  rw [e]
  by_cases h : k ≤ xs.length
  · rw [Nat.min_eq_left h, List.take_of_length_le (by rw [List.length_drop]; omega)]
  · rw [Nat.min_eq_right (by omega), List.drop_of_length_le (Nat.le_refl _), List.drop_of_length_le (by omega)]
    simp
theorem cut_mid (xs : List V) (j k : Nat) (h : k ≤ xs.length) (hj : j ≤ k) : cutV xs (some ((j : Nat) : Int)) (some ((k : Nat) : Int)) = (xs.drop j).take (k - j) := by
  unfold cutV
  rw [sIx_nat, sIx_nat, Nat.min_eq_left (show j ≤ xs.length by omega), Nat.min_eq_left h]
theorem sub_nodup {α : Type} {l m : List α} (h : l.Sublist m) (n : m.Nodup) : l.Nodup := List.Pairwise.sublist h n
/-- a set of constants that is a part of the words, and what it makes of the relations -/
theorem allF_sum (cs : List Str) (known : List (Str × Nat)) : (allF cs known).length = ((known.map (·.2)).map fun k => cs.length ^ k).sum := by
  rw [allF_len, List.map_map]
  rfl
def spGreatD (K : PySem.W.Frag) : Sp := fun vs H Q _ => ∃ (d q : Addr) (ws : List Str), vs = [.ref d, .ref q] ∧ Dr H d ∧ q ≠ d ∧ H q = some (.lst (ws.map V.str)) ∧ ws.length = 8 ∧ ws.Nodup ∧ (∀ w ∈ ws, nameB w = true ∧ Wd w) ∧
  ∀ H1 dd a1 u a3 a4 a5 known cs fs rs, Xd d H H1 → H dd = none → dd ≠ d → DatAt K H1 dd known cs fs rs a1 u a3 a4 a5 → DatOk known cs fs rs → (∀ z ∈ [a1, a3, a4, a5], z ≠ d ∧ z ≠ dd) → Q (.ref dd) H1
theorem rkN_mk {K : PySem.W.Frag} {H : Hp} {n : Str} {p : Nat} {t : Addr} (h : H t = some (.tup [.str n, .int (p : Int)])) : NkV K H (rkN (n, p)) (.ref t) := nk_tup h (nkA_cons nk_text (nkA_cons nk_num nkA_nil))
theorem nkA_all2 {K : PySem.W.Frag} {H : Hp} {α : Type} {f : α → NestedKey} : ∀ {l : List α} {us : List V}, All2 (fun x v => NkV K H (f x) v) l us → NkA K H (l.map f) us
  | _, _, .nil => nkA_nil
  | _, _, .cons h1 h2 => nkA_cons h1 (nkA_all2 h2)
/-- the words of relations, by their places -/
theorem fst_take {ws : List Str} {known : List (Str × Nat)} (h : ∀ (i : Nat) k, known[i]? = some k → ws[i]? = some k.1) : known.map (·.1) = ws.take known.length := by
  apply List.ext_getElem?
  intro i
  rw [List.getElem?_map]
  by_cases hi : i < known.length
  · have h1 := h i known[i] (List.getElem?_eq_getElem hi)
    rw [List.getElem?_eq_getElem hi, List.getElem?_take_of_lt hi, h1]
    rfl
  · rw [List.getElem?_eq_none (by omega), List.getElem?_eq_none (by rw [List.length_take]; omega)]
    rfl
theorem snd_all {l : List Nat} {known : List (Str × Nat)} (hl : known.length = l.length) (h : ∀ (i : Nat) k, known[i]? = some k → l[i]? = some k.2) : known.map (·.2) = l := by
  apply List.ext_getElem?
  intro i
  rw [List.getElem?_map]
  by_cases hi : i < known.length
  · have h1 := h i known[i] (List.getElem?_eq_getElem hi)
    rw [List.getElem?_eq_getElem hi, h1]
    rfl
  · rw [List.getElem?_eq_none (by omega), List.getElem?_eq_none (by omega)]
    rfl
/-- facts that were chosen -/
structure FacL (K : PySem.W.Frag) (H : Hp) (fl : Addr) (L fs : List Fact) : Prop where
  v : ∃ us, H fl = some (.lst us) ∧ NkA K H (fs.map fk) us
  s : fs.Sublist L
end Cq
namespace Cq
open PySem PySem.Spec PyProof.Rows L2 Gx Lw Sn Dn Wq
theorem nkA_rev {K : PySem.W.Frag} {H : Hp} : ∀ {ks : List NestedKey} {us : List V}, NkA K H ks us → NkA K H ks.reverse us.reverse
  | [], us, h => by
    unfold NkA at h
    subst h
    exact nkA_nil
  | k :: ks, us, h => by
    unfold NkA at h
    obtain ⟨y, r, rfl, h1, h2⟩ := h
    rw [List.reverse_cons, List.reverse_cons]
    exact nkA_app (nkA_rev h2) (nkA_cons h1 nkA_nil)
end Cq
namespace Cq
open PySem PySem.Spec PyProof.Rows L2 Gx Lw Sn Dn Wq
def rot (pl : List Nat) (s : Nat) : List Nat := pl.drop s ++ pl.take s
structure PlOk (sz : Nat) (pl : List Nat) : Prop where
  len : pl.length = 6
  b : ∀ x ∈ pl, 1 ≤ x ∧ x ≤ 3
  sum : ∀ s < 6, ((rot pl s).map fun k => sz ^ k).sum ≤ 200
theorem plOk4 : PlOk 4 [3, 3, 2, 2, 2, 1] := ⟨rfl, by decide, by decide⟩
theorem plOk5 : PlOk 5 [3, 2, 2, 1, 1, 1] := ⟨rfl, by decide, by decide⟩
theorem plOk6 : PlOk 6 [2, 2, 2, 2, 1, 1] := ⟨rfl, by decide, by decide⟩
theorem rot_len {pl : List Nat} (s : Nat) (h : pl.length = 6) : (rot pl s).length = 6 := by
  unfold rot
  rw [List.length_append, List.length_drop, List.length_take]
  omega
theorem rot_mem {pl : List Nat} {s x : Nat} (h : x ∈ rot pl s) : x ∈ pl := (List.mem_append.mp h).elim List.mem_of_mem_drop List.mem_of_mem_take
section
variable {K : PySem.W.Frag} {H : Hp} {dd a1 a3 a4 a5 : Addr} {u : V} {known : List (Str × Nat)} {cs : List Str} {fs : List Fact} {rs : List RuleT}
theorem Lk.dK {kvs : List (Key × V)} {o : HO} (h : H dd = some (.dK kvs)) : Lk H (upd H dd o) := by
  refine ⟨tk_at h (fun _ => nofun) fun _ _ => nofun, fun b xs e => ?_⟩
  rw [upd_ne fun z => by rw [z, h] at e; cases e]
  exact e
theorem tabG_dK {kvs : List (Key × V)} {o : HO} {p : Addr} (h : H dd = some (.dK kvs)) (t : GxR.TabG H p) : GxR.TabG (upd H dd o) p := by
  obtain ⟨ps, e, t⟩ := t
  exact ⟨ps, by rw [upd_ne fun z => by rw [z, h] at e; cases e]; exact e, t⟩
theorem DatP.lk {H' : Hp} (x : Lk H H') (h : DatP K H known cs fs rs a1 a3 a4 a5) : DatP K H' known cs fs rs a1 a3 a4 a5 := by
  obtain ⟨⟨kv, k1, k2⟩, c, ⟨fv, f1, f2⟩, ⟨rv, r1, r2⟩⟩ := h
  exact ⟨⟨kv, x.l _ _ k1, nkA_tk x.tk _ _ k2⟩, x.l _ _ c, ⟨fv, x.l _ _ f1, nkA_tk x.tk _ _ f2⟩, ⟨rv, x.l _ _ r1, r2.lk x⟩⟩
/-- other facts -/
theorem DatAt.put {b4 : Addr} {fs' : List Fact} {fv : List V} (h : DatAt K H dd known cs fs rs a1 u a3 a4 a5) (hb : H b4 = some (.lst fv)) (hk : NkA K H (fs'.map fk) fv) : DatAt K (upd H dd (.dK (datK a1 u a3 b4 a5))) dd known cs fs' rs a1 u a3 b4 a5 :=
  ⟨upd_same .., DatP.lk (Lk.dK h.d) ⟨h.p.k, h.p.c, ⟨fv, hb, hk⟩, h.p.r⟩⟩
theorem put_datK (b4 : Addr) : putK (datK a1 u a3 a4 a5) (kS "facts") (.ref b4) = datK a1 u a3 b4 a5 := rfl
theorem DatOk.put {fs' : List Fact} (h : DatOk known cs fs rs) (n : fs'.Nodup) (a : ∀ f ∈ fs', f ∈ allF cs known) : DatOk known cs fs' rs := ⟨h.kn, h.nd, h.kw, h.all, h.c1, h.c6, h.cn, h.cw, n, a, h.r20, h.rg, h.rk⟩
theorem lawFrom_mem {S : List Fact} : ∀ {rs : List RuleT} {i : Nat}, (∀ r ∈ rs, wid r ≤ 4 ∧ r.1.2.length ≤ 3) → ∀ x ∈ lawFrom cs S i rs, x.1.2.length ≤ 3 ∧ x.2.2.length ≤ 4
  | [], i, _, x, hx => by cases hx
  | r :: rs, i, h, x, hx => by
    rcases List.mem_append.mp hx with hx | hx
    · obtain ⟨f, hf, rfl⟩ := List.mem_map.mp hx
      have h1 := prodN_len cs (wid r) f (List.mem_filter.mp hf).1
      obtain ⟨h2, h3⟩ := h r (List.mem_cons_self ..)
      exact ⟨by show (r.1.2.map _).length ≤ 3; rw [List.length_map]; exact h3, by show f.length ≤ 4; omega⟩
    · exact lawFrom_mem (fun q hq => h q (List.mem_cons_of_mem _ hq)) x hx
end
end Cq
namespace Cq
open PySem PySem.Spec PyProof.Rows L2 Gx Lw Sn Dn Wq
section
variable {K : PySem.W.Frag} {H H' : Hp} {d dd a1 a3 a4 a5 : Addr} {u : V} {known : List (Str × Nat)} {cs : List Str} {fs : List Fact} {rs : List RuleT}
theorem atoms_ne {as : List Atom} {ws : List V} {q : Addr} (hd : Dr H d) (hq : H q = some (.lst ws)) (h : NkA K H (as.map ak) ws) (ne : as ≠ []) : q ≠ d := fun z => by
  subst z
  obtain ⟨ns, e⟩ := hd
  rw [hq] at e
  injection e with e
  injection e with e
  cases as with
  | nil => exact ne rfl
  | cons x as =>
    rw [List.map_cons] at h
    unfold NkA at h
    obtain ⟨y, r, rfl, h1, _⟩ := h
    obtain ⟨t, b, rfl, _⟩ := ak_inv h1
    cases ns with
    | nil => cases e
    | cons n ns =>
      rw [List.map_cons] at e
      injection e with e _
      cases e
theorem RuleA.xdG (hd : Dr H d) (x : Xd d H H') : ∀ {rs : List RuleT} {vs : List V}, (∀ r ∈ rs, r.2 ≠ []) → RuleA K H rs vs → RuleA K H' rs vs
  | _, _, _, .nil => .nil
  | _, _, h, .cons ⟨t, hv, q, ws, e, h1, h2, h3, h4⟩ hr => by
    have tk := Tk.of_xd hd x
    have hne := atoms_ne hd h3 h4 (h _ (List.mem_cons_self ..))
    exact .cons ⟨t, hv, q, ws, e, tk.t _ _ h1, nkV_tk tk _ _ h2, x.lst hne h3, nkA_tk tk _ _ h4⟩ (RuleA.xdG hd x (fun r hr => h r (List.mem_cons_of_mem _ hr)) hr)
theorem DatAt.xd (hd : Dr H d) (x : Xd d H H') (h0 : dd ≠ d) (h1 : a1 ≠ d) (h3 : a3 ≠ d) (h4 : a4 ≠ d) (h5 : a5 ≠ d) (hr : ∀ r ∈ rs, r.2 ≠ []) (h : DatAt K H dd known cs fs rs a1 u a3 a4 a5) : DatAt K H' dd known cs fs rs a1 u a3 a4 a5 := by
  have tk := Tk.of_xd hd x
  obtain ⟨hD, ⟨kv, k1, k2⟩, c, ⟨fv, f1, f2⟩, ⟨rv, r1, r2⟩⟩ := h
  exact ⟨x.keep _ _ h0 hD fun _ => nofun, ⟨kv, x.lst h1 k1, nkA_tk tk _ _ k2⟩, x.lst h3 c, ⟨fv, x.lst h4 f1, nkA_tk tk _ _ f2⟩, ⟨rv, x.lst h5 r1, r2.xdG hd x hr⟩⟩
theorem OptV.xt (x : Xt H H') : ∀ {o : Option (Fact × Nat × List Str)} {v : V}, OptV K H o v → OptV K H' o v
  | none, _, h => h
  | some _, _, h => DoneV.tk (.of_xt x) h
theorem OptV.same {o : Option (Fact × Nat × List Str)} {v w : V} (h : OptV K H o v) (g : OptV K H o w) (hb : ∀ x, o = some x → x.1.2.length ≤ 3 ∧ x.2.2.length ≤ 4) (n : Nat) : SameS K H (n + 3) v w := by
  cases o with
  | none =>
    have h : v = .non := h
    have g : w = .non := g
    rw [h, g]
    exact .leaf rfl _
  | some x =>
    obtain ⟨b1, b2⟩ := hb x rfl
    exact same_step h g (by omega) (by omega) n
end
end Cq
set_option Elab.async false
set_option linter.all false
set_option maxRecDepth 100000
set_option maxHeartbeats 4000000
/-! steps that are told, and judged -/
namespace Cq
open PySem PySem.Spec PyProof.Rows L2 Gx Lw Sn Dn Wq
abbrev ToldT := Fact × Int × List Str
def ToldV (K : PySem.W.Frag) (H : Hp) (x : ToldT) (v : V) : Prop := ∃ t fv gv, v = .ref t ∧ H t = some (.tup [fv, .int x.2.1, gv]) ∧ NkV K H (fk x.1) fv ∧ NkV K H (sk x.2.2) gv
theorem ToldV.tk {K : PySem.W.Frag} {H H' : Hp} {x : ToldT} {v : V} (t : Tk H H') (h : ToldV K H x v) : ToldV K H' x v := by
  obtain ⟨p, fv, gv, e, h1, h2, h3⟩ := h
  exact ⟨p, fv, gv, e, t.t _ _ h1, nkV_tk t _ _ h2, nkV_tk t _ _ h3⟩
theorem DoneV.told {K : PySem.W.Frag} {H : Hp} {x : Fact × Nat × List Str} {v : V} (h : DoneV K H x v) : ToldV K H (x.1, (x.2.1 : Int), x.2.2) v := h
structure TOk (x : ToldT) : Prop where
  f : Wf x.1
  g : (∀ w ∈ x.2.2, Wd w) ∧ x.2.2.length ≤ 500
def ToldA (K : PySem.W.Frag) (H : Hp) (l : List ToldT) (us : List V) : Prop := All2 (fun x v => ToldV K H x v) l us
def gvs (cs : List Str) (r : RuleT) (S : List Fact) (f : Fact) (g : List Str) : Bool := (decide (g.length = wid r) && g.all fun c => decide (c ∈ cs)) && (decide (factOf r.1 g = f) && there S r.2 g)
def jstep (cs : List Str) (rs : List RuleT) (S : List Fact) (x : ToldT) : Option (List Fact) :=
  if x.1 ∈ S then none else if 0 ≤ x.2.1 ∧ x.2.1 < rs.length then match rs[x.2.1.toNat]? with
    | none => none
    | some r => if gvs cs r S x.1 x.2.2 = true then some (addF S x.1) else none
  else none
def judge (cs : List Str) (rs : List RuleT) : List Fact → List ToldT → Option (List Fact)
  | S, [] => some S
  | S, x :: l => match jstep cs rs S x with
    | none => none
    | some S' => judge cs rs S' l
theorem judge_cons (cs : List Str) (rs : List RuleT) (S : List Fact) (x : ToldT) (l : List ToldT) : judge cs rs S (x :: l) = (jstep cs rs S x).bind fun S' => judge cs rs S' l := by
  conv => lhs; unfold judge
  cases jstep cs rs S x <;> rfl
theorem judge_app (cs : List Str) (rs : List RuleT) (m : List ToldT) : ∀ (l : List ToldT) (S : List Fact), judge cs rs S (l ++ m) = (judge cs rs S l).bind fun S' => judge cs rs S' m
  | [], S => rfl
  | x :: l, S => by
    rw [List.cons_append, judge_cons, judge_cons]
    cases jstep cs rs S x with
    | none => rfl
    | some S' => exact judge_app cs rs m l S'
theorem jstep_some {cs : List Str} {rs : List RuleT} {S S' : List Fact} {x : ToldT} (h : jstep cs rs S x = some S') : S' = addF S x.1 := by
  unfold jstep at h
  split at h
  · cases h
  · split at h
    · split at h
      · cases h
      · split at h
        · exact (Option.some.inj h).symm
        · cases h
    · cases h
theorem judge_fold {cs : List Str} {rs : List RuleT} : ∀ {l : List ToldT} {S S' : List Fact}, judge cs rs S l = some S' → S' = (l.map (·.1)).foldl addF S
  | [], S, S', h => (Option.some.inj h).symm
  | x :: l, S, S', h => by
    rw [judge_cons] at h
    cases e : jstep cs rs S x with
    | none => rw [e] at h; cases h
    | some S1 =>
      rw [e] at h
      rw [judge_fold h, jstep_some e]
      rfl
theorem judge_take {cs : List Str} {rs : List RuleT} {S S' : List Fact} {l : List ToldT} {i : Nat} {x : ToldT} (h : judge cs rs S (l.take i) = some S') (hx : l[i]? = some x) : judge cs rs S (l.take (i + 1)) = jstep cs rs S' x := by
  rw [List.take_add_one, hx]
  show judge cs rs S (l.take i ++ [x]) = _
  rw [judge_app, h]
  show judge cs rs S' [x] = _
  rw [judge_cons]
  cases jstep cs rs S' x <;> rfl
theorem judge_none {cs : List Str} {rs : List RuleT} {S S' : List Fact} {l : List ToldT} {i : Nat} {x : ToldT} (h : judge cs rs S (l.take i) = some S') (hx : l[i]? = some x) (hn : jstep cs rs S' x = none) : judge cs rs S l = none := by
  have e : l = l.take (i + 1) ++ l.drop (i + 1) := (List.take_append_drop ..).symm
  rw [e, judge_app, judge_take h hx, hn]
  rfl
theorem addF_fold_len : ∀ (l : List Fact) (S : List Fact), (l.foldl addF S).length ≤ S.length + l.length
  | [], S => Nat.le_refl _
  | f :: l, S => by
    rw [List.foldl_cons, List.length_cons]
    have h1 := addF_fold_len l (addF S f)
    have h2 := addF_len S f
    omega
theorem ddF_app (l m : List Fact) : ddF (l ++ m) = m.foldl addF (ddF l) := by
  unfold ddF
  rw [List.foldl_append]
/-- what the program's own look at one step promises -/
def spGivesP (P : Program) (w : World) (K : PySem.W.Frag) (t1 t2 : Addr) : Sp := fun vs H Q _ => ∃ (v u y : V) (c d : Addr) (r : RuleT) (cs : List Str) (S : List Fact) (f : Fact) (g : List Str), vs = [v, .ref c, .ref d, u, y] ∧ StepV K H r (wid r) v ∧ SqL K H c (cs.map V.str) ∧ Tb P w K H d S ∧ NkV K H (sk g) u ∧ NkV K H (fk f) y ∧
  RuleOk (wid r) r ∧ Wd r.1.1 ∧ TOk (f, 0, g) ∧ GxR.TabG H t1 ∧ GxR.TabG H t2 ∧ ∀ H1, Xt H H1 → Q (.bl (gvs cs r S f g)) H1
def RsOk (rs : List RuleT) : Prop := rs.length ≤ 1000 ∧ ∀ r ∈ rs, RuleOk (wid r) r ∧ wid r ≤ 4 ∧ r.2 ≠ [] ∧ Wd r.1.1
def spAreSteps (P : Program) (w : World) (K : PySem.W.Frag) (t1 t2 : Addr) : Sp := fun vs H Q _ => ∃ (p c q l : Addr) (rv fv us : List V) (rs : List RuleT) (cs : List Str) (fs : List Fact) (told : List ToldT), vs = [.ref p, .ref c, .ref q, .ref l] ∧ SqL K H p rv ∧ StepA K H wid rs rv ∧ SqL K H c (cs.map V.str) ∧ SqL K H q fv ∧ NkA K H (fs.map fk) fv ∧
  SqL K H l us ∧ ToldA K H told us ∧ (∀ x ∈ told, TOk x) ∧ RsOk rs ∧ fs.length ≤ 1000 ∧ told.length ≤ 1000 ∧ GxR.TabG H t1 ∧ GxR.TabG H t2 ∧ ∀ H1, Xt H H1 → Q (.bl (judge cs rs (ddF fs) told).isSome) H1
end Cq
namespace Cq
open PySem PySem.Spec PyProof.Rows L2 Gx Lw Sn Dn Wq
/-- lo <= m < hi -/
theorem rd_chainLt {tb tc : TE} {σ : L2.St} {H : Hp} {lo hi m : Int} {Qb : Bool → Hp → Prop} (hb : ∀ Q : VK, Q (.int m) H → tb σ H Q) (hc : ∀ Q : VK, Q (.int hi) H → tc σ H Q) (q : Qb (decide (lo ≤ m) && decide (m < hi)) H) :
    tTest (tChain (rI0 fun i j => .bl (decide (i ≤ j))) (rI0 fun i j => .bl (decide (i < j))) (tC (.int lo)) tb tc) σ H Qb := by
  refine hb _ ⟨lo, m, rfl, rfl, _, rfl, ite2 (fun h1 => hc _ ⟨m, hi, rfl, rfl, _, rfl, ?_⟩) (fun h1 => ⟨_, rfl, ?_⟩)⟩
  · rw [h1, Bool.true_and] at q
    exact q
  · rw [eq_false_of_ne_true h1, Bool.false_and] at q
    exact q
end Cq
namespace Cq
open PySem PySem.Spec PyProof.Rows L2 Gx Lw Sn Dn Wq
/-- a world as it was made -/
structure WldAt (K : PySem.W.Frag) (H : Hp) (C : Addr) (o : Addr) (cs : List Str) (fs : List Fact) : Prop where
  ex : ∃ dx l1 l2 us, H o = some (.ins C dx [("constants", .ref l1), ("facts", .ref l2)]) ∧ H l1 = some (.lst (cs.map V.str)) ∧ H l2 = some (.lst us) ∧ NkA K H (fs.map fk) us
theorem WldAt.xt {K : PySem.W.Frag} {H H' : Hp} {C o : Addr} {cs : List Str} {fs : List Fact} (x : Xt H H') (h : WldAt K H C o cs fs) : WldAt K H' C o cs fs := by
  obtain ⟨dx, l1, l2, us, h1, h2, h3, h4⟩ := h.ex
  exact ⟨dx, l1, l2, us, x.keep _ _ h1 fun _ => nofun, x.lst h2, x.lst h3, nkA_tk (.of_xt x) _ _ h4⟩
theorem dr_ne {H : Hp} {d z : Addr} {xs : List V} (hd : Dr H d) (h : H z = some (.lst xs)) (hx : ∀ n : Int, V.int n ∉ xs) (hn : xs ≠ []) : z ≠ d := fun e => by
  subst e
  obtain ⟨ns, q⟩ := hd
  rw [h] at q
  injection q with q
  injection q with q
  cases ns with
  | nil => exact hn q
  | cons n ns => exact hx n (by rw [q]; exact List.mem_cons_self ..)
def spAccepts (P : Program) (w : World) (K : PySem.W.Frag) (C t1 t2 : Addr) : Sp := fun vs H Q _ => ∃ (p o l : Addr) (rv us : List V) (rs : List RuleT) (cs : List Str) (fs : List Fact) (told : List ToldT), vs = [.ref p, .ref o, .ref l] ∧ SqL K H p rv ∧ RuleA K H rs rv ∧ WldAt K H C o cs fs ∧
  SqL K H l us ∧ ToldA K H told us ∧ (∀ x ∈ told, TOk x) ∧ RsOk rs ∧ (∀ r ∈ rs, (∀ a ∈ r.2, a.2 ≠ []) ∧ r.2.length ≤ 1000) ∧ fs.length ≤ 1000 ∧ told.length ≤ 1000 ∧ GxR.TabG H t1 ∧ GxR.TabG H t2 ∧ ∀ H1, Xt H H1 → Q (.bl (judge cs rs (ddF fs) told).isSome) H1
def wholeB (cs : List Str) (rs : List RuleT) (fs : List Fact) (told : List ToldT) : Bool := match judge cs rs (ddF fs) told with
  | none => false
  | some S => (freshIn wid cs S 0 rs).isNone
def spWhole (P : Program) (w : World) (K : PySem.W.Frag) (C t1 t2 : Addr) : Sp := fun vs H Q _ => ∃ (p o l : Addr) (rv us : List V) (rs : List RuleT) (cs : List Str) (fs : List Fact) (told : List ToldT), vs = [.ref p, .ref o, .ref l] ∧ SqL K H p rv ∧ RuleA K H rs rv ∧ WldAt K H C o cs fs ∧
  H l = some (.lst us) ∧ ToldA K H told us ∧ (∀ x ∈ told, TOk x) ∧ RsOk rs ∧ (∀ r ∈ rs, (∀ a ∈ r.2, a.2 ≠ []) ∧ r.2.length ≤ 1000) ∧ cs.length ≤ 7 ∧ fs.length ≤ 1000 ∧ told.length ≤ 1000 ∧ GxR.TabG H t1 ∧ GxR.TabG H t2 ∧ ∀ H1, Xt H H1 → Q (.bl (wholeB cs rs fs told)) H1
end Cq
namespace Cq
open PySem PySem.Spec PyProof.Rows L2 Gx Lw Sn Dn Wq
section
variable {K : PySem.W.Frag} {H : Hp} {dd a1 a3 a4 a5 : Addr} {u : V} {known : List (Str × Nat)} {cs : List Str} {fs : List Fact} {rs : List RuleT}
theorem DatAt.putC {b3 : Addr} {cs' : List Str} (h : DatAt K H dd known cs fs rs a1 u a3 a4 a5) (hb : H b3 = some (.lst (cs'.map V.str))) : DatAt K (upd H dd (.dK (datK a1 u b3 a4 a5))) dd known cs' fs rs a1 u b3 a4 a5 :=
  ⟨upd_same .., DatP.lk (Lk.dK h.d) ⟨h.p.k, hb, h.p.f, h.p.r⟩⟩
theorem DatAt.putR {b5 : Addr} {rs' : List RuleT} {rv : List V} (h : DatAt K H dd known cs fs rs a1 u a3 a4 a5) (hb : H b5 = some (.lst rv)) (hr : RuleA K H rs' rv) : DatAt K (upd H dd (.dK (datK a1 u a3 a4 b5))) dd known cs fs rs' a1 u a3 a4 b5 :=
  ⟨upd_same .., DatP.lk (Lk.dK h.d) ⟨h.p.k, h.p.c, h.p.f, ⟨rv, hb, hr⟩⟩⟩
theorem prodN_all {cs : List Str} : ∀ {n : Nat} {f : List Str}, f.length = n → (∀ x ∈ f, x ∈ cs) → f ∈ prodN cs n
  | 0, f, h, _ => by rw [List.eq_nil_of_length_eq_zero h]; exact List.mem_singleton.mpr rfl
  | n + 1, f, h, hm => by
    rcases List.eq_nil_or_concat f with e | ⟨g, c, e⟩
    · rw [e] at h; cases h
    · rw [List.concat_eq_append] at e
      subst e
      have hg : g.length = n := by simpa using h
      exact List.mem_flatMap.mpr ⟨g, prodN_all hg fun x hx => hm x (List.mem_append_left _ hx), List.mem_map.mpr ⟨c, hm c (List.mem_append_right _ (List.mem_singleton.mpr rfl)), rfl⟩⟩
theorem allF_of {cs' : List Str} {f : Fact} (h : f ∈ allF cs known) (hm : ∀ x ∈ f.2, x ∈ cs') : f ∈ allF cs' known := by
  obtain ⟨k, hk, h⟩ := List.mem_flatMap.mp h
  obtain ⟨r, hr, rfl⟩ := List.mem_map.mp h
  exact List.mem_flatMap.mpr ⟨k, hk, List.mem_map.mpr ⟨r, prodN_all (prodN_len cs k.2 r hr) hm, rfl⟩⟩
theorem allF_mono {cs' : List Str} (h : cs'.length ≤ cs.length) : (allF cs' known).length ≤ (allF cs known).length := by
  rw [allF_sum, allF_sum]
  generalize known.map (·.2) = l
  induction l with
  | nil => exact Nat.le_refl _
  | cons n l ih =>
    rw [List.map_cons, List.map_cons, List.sum_cons, List.sum_cons]
    exact Nat.add_le_add (Nat.pow_le_pow_left h n) ih
end
end Cq
namespace Cq
open PySem PySem.Spec PyProof.Rows L2 Gx Lw Sn Dn Wq
theorem ruleA_base {K : PySem.W.Frag} {H H' : Hp} (x : Xt H H') : ∀ {l : List RuleT} {us : List V}, All2 (fun r v => RuleV K H r v) l us → RuleA K H' l us
  | _, _, .nil => .nil
  | _, _, .cons h1 h2 => .cons (h1.lk (.of_xt x)) (ruleA_base x h2)
/-- what the law's own look tells: None or the table -/
def OptT (P : Program) (w : World) (K : PySem.W.Frag) (H : Hp) (o : Option (List Fact)) (v : V) : Prop := match o with
  | none => v = .non
  | some S => ∃ t, v = .ref t ∧ Tb P w K H t S
def spDerived (P : Program) (w : World) (K : PySem.W.Frag) : Sp := fun vs H Q _ => ∃ (dd l a1 a3 a4 a5 : Addr) (u : V) (known : List (Str × Nat)) (cs : List Str) (fs : List Fact) (rs : List RuleT) (us : List V) (told : List ToldT), vs = [.ref dd, .ref l] ∧ DatAt K H dd known cs fs rs a1 u a3 a4 a5 ∧ DatOk known cs fs rs ∧
  H l = some (.lst us) ∧ ToldA K H told us ∧ (∀ x ∈ told, TOk x) ∧ told.length ≤ 1000 ∧ ∀ H1 v, Xt H H1 → OptT P w K H1 (judge cs rs (ddF fs) told) v → Q v H1
def spWalk (P : Program) (w : World) (K : PySem.W.Frag) : Sp := fun vs H Q _ => ∃ (d dd a1 a3 a4 a5 : Addr) (u : V) (known : List (Str × Nat)) (cs : List Str) (fs : List Fact) (rs : List RuleT) (m : Nat), vs = [.ref d, .ref dd, .int (m : Int)] ∧ Dr H d ∧ dd ≠ d ∧ (∀ z ∈ [a1, a3, a4, a5], z ≠ d) ∧ DatAt K H dd known cs fs rs a1 u a3 a4 a5 ∧ DatOk known cs fs rs ∧ (∀ r ∈ rs, Wd r.1.1) ∧
  m ≤ 100 ∧ ∀ H1 l us told, Xd d H H1 → H l = none → H1 l = some (.lst us) → ToldA K H1 told us → (∀ x ∈ told, TOk x ∧ x.2.2.length ≤ 4) → told.length ≤ m → Q (.ref l) H1
theorem DatOk.rsOk {known : List (Str × Nat)} {cs : List Str} {fs : List Fact} {rs : List RuleT} (ok : DatOk known cs fs rs) : RsOk rs := ⟨by have := ok.r20; omega, fun r hr => by
  obtain ⟨m, _, g⟩ := ok.rg r hr
  exact ⟨g.ok, ok.w4 r hr, g.ne, g.hw⟩⟩
theorem getD_wd {g : List Str} (h : ∀ w ∈ g, Wd w) (i : Nat) : Wd (g.getD i noS) := by
  rw [List.getD_eq_getElem?_getD]
  cases e : g[i]? with
  | none => exact ⟨by decide, by decide⟩
  | some x => exact h x (List.mem_of_getElem? e)
theorem factOf_wf {a : Atom} {g : List Str} (ha : Wd a.1) (hn : a.2.length ≤ 1000) (h : ∀ w ∈ g, Wd w) : Wf (factOf a g) := ⟨ha, fun w hw => by
  obtain ⟨i, _, rfl⟩ := List.mem_map.mp hw
  exact getD_wd h i, by show (a.2.map _).length ≤ 1000; rw [List.length_map]; exact hn⟩
/-- the steps of a data are steps that may be told -/
theorem lawFrom_ok {known : List (Str × Nat)} {cs : List Str} {fs : List Fact} (S : List Fact) (hc : ∀ c ∈ cs, Wd c) : ∀ {rs : List RuleT} {i : Nat}, (∀ r ∈ rs, wid r ≤ 4 ∧ RuleOk (wid r) r ∧ Wd r.1.1) → ∀ x ∈ lawFrom cs S i rs, TOk (x.1, (x.2.1 : Int), x.2.2) ∧ x.2.2.length ≤ 4
  | [], i, _, x, hx => by cases hx
  | r :: rs, i, h, x, hx => by
    rcases List.mem_append.mp hx with hx | hx
    · obtain ⟨f, hf, rfl⟩ := List.mem_map.mp hx
      have h0 := (List.mem_filter.mp hf).1
      have h1 := prodN_len cs (wid r) f h0
      have hw : ∀ w ∈ f, Wd w := fun w hw => hc w (prodN_mem cs (wid r) f h0 w hw)
      obtain ⟨h2, h3, h4⟩ := h r (List.mem_cons_self ..)
      exact ⟨⟨factOf_wf h4 h3.2.2.1 hw, hw, by show f.length ≤ 500; omega⟩, by show f.length ≤ 4; omega⟩
    · exact lawFrom_ok (known := known) (fs := fs) S hc (fun q hq => h q (List.mem_cons_of_mem _ hq)) x hx
end Cq
namespace Gx
open PySem PySem.Spec PyProof.Rows L2
theorem sl_tupAK {X : Cx} {K : PySem.W.Frag} (h : X.K = K) : SlR X (rSlA K) := by subst h; exact sl_tupA
end Gx
namespace Cq
open PySem PySem.Spec PyProof.Rows L2 Gx Lw Sn Dn Wq
theorem tOr_of {t u : TT} {σ : L2.St} {H : Hp} {Q : Bool → Hp → Prop} (b1 b2 : Bool) (h1 : ∀ Q : Bool → Hp → Prop, Q b1 H → t σ H Q) (h2 : ∀ Q : Bool → Hp → Prop, Q b2 H → u σ H Q) (q : Q (b1 || b2) H) : tOr t u σ H Q := by
  refine h1 _ ?_
  cases b1 with
  | true => exact iteT q
  | false => exact iteF (h2 _ q)
theorem strs_of {p : Str → Prop} : ∀ {ys : List V}, (∀ v ∈ ys, ∃ w : Str, p w ∧ v = .str w) → ∃ l : List Str, ys = l.map V.str ∧ ∀ w ∈ l, p w
  | [], _ => ⟨[], rfl, fun i hi => by cases hi⟩
  | y :: ys, h => by
    obtain ⟨n, hn, rfl⟩ := h y (List.mem_cons_self ..)
    obtain ⟨l, rfl, hl⟩ := strs_of (fun v hv => h v (List.mem_cons_of_mem _ hv))
    exact ⟨n :: l, rfl, fun i hi => (List.mem_cons.mp hi).elim (fun e => e ▸ hn) (hl i)⟩
/-- data and its draws -/
structure DatD (K : PySem.W.Frag) (H : Hp) (d dd : Addr) (known : List (Str × Nat)) (cs : List Str) (fs : List Fact) (rs : List RuleT) : Prop where
  dr : Dr H d
  ne : dd ≠ d
  ex : ∃ a1 u a3 a4 a5, DatAt K H dd known cs fs rs a1 u a3 a4 a5 ∧ ∀ z ∈ [a1, a3, a4, a5], z ≠ d
theorem DatD.xd {K : PySem.W.Frag} {H H' : Hp} {d dd : Addr} {known : List (Str × Nat)} {cs : List Str} {fs : List Fact} {rs : List RuleT} (x : Xd d H H') (ok : DatOk known cs fs rs) (h : DatD K H d dd known cs fs rs) : DatD K H' d dd known cs fs rs := by
  obtain ⟨hd, ne, a1, u, a3, a4, a5, D, hz⟩ := h
  exact ⟨x.dr, ne, a1, u, a3, a4, a5, D.xd hd x ne (hz _ (by simp)) (hz _ (by simp)) (hz _ (by simp)) (hz _ (by simp)) (fun r hr => by
    obtain ⟨m, _, g⟩ := ok.rg r hr
    exact g.ne), hz⟩
def spAnyFact (K : PySem.W.Frag) : Sp := fun vs H Q _ => ∃ (d dd : Addr) (known : List (Str × Nat)) (cs : List Str) (fs : List Fact) (rs : List RuleT), vs = [.ref d, .ref dd] ∧ DatD K H d dd known cs fs rs ∧ DatOk known cs fs rs ∧ ∀ H1 v f, Xd d H H1 → NkV K H1 (fk f) v → Wf f → Q v H1
structure TlOk (b : Nat) (told : List ToldT) : Prop where
  o : ∀ x ∈ told, TOk x ∧ x.2.2.length ≤ 4 + b
  l : told.length ≤ 20 + b
def spBent (K : PySem.W.Frag) : Sp := fun vs H Q _ => ∃ (d dd l : Addr) (known : List (Str × Nat)) (cs : List Str) (fs : List Fact) (rs : List RuleT) (us : List V) (told : List ToldT) (b : Nat), vs = [.ref d, .ref dd, .ref l] ∧ DatD K H d dd known cs fs rs ∧ DatOk known cs fs rs ∧ H l = some (.lst us) ∧ ToldA K H told us ∧ TlOk b told ∧ b ≤ 100 ∧
  ∀ H1 l' us' told', Xd d H H1 → H l' = none → H1 l' = some (.lst us') → ToldA K H1 told' us' → TlOk (b + 1) told' → Q (.ref l') H1
end Cq
namespace Cq
open PySem PySem.Spec PyProof.Rows L2 Gx Lw Sn Dn Wq
theorem rd_sl1 {K : PySem.W.Frag} {H : Hp} {Q : VK} {a : Addr} {g : List Str} (h : SqT K H a (g.map V.str)) (q : ∀ p H', Xt H H' → SqT K H' p ((g.drop 1).map V.str) → Q (.ref p) H') : rSlA K (.ref a) (some 1) none H Q := by
  refine ⟨a, _, rfl, h, fun hw => ?_, fun hw p hp => ?_⟩
  · have h1 := hw.1
    rw [show (1 : Int) = ((1 : Nat) : Int) from rfl, sIx_nat, List.length_map] at h1
    have hg : g = [] := List.eq_nil_of_length_eq_zero (by omega)
    subst hg
    exact q a H (Xt.refl H) h
  · refine q p _ (Xt.new hp) (.inl (.inl ?_))
    rw [upd_same, show (1 : Int) = ((1 : Nat) : Int) from rfl, cut_drop, List.map_drop]
theorem rd_sl2 {K : PySem.W.Frag} {H : Hp} {Q : VK} {a : Addr} {g : List Str} (h : SqT K H a (g.map V.str)) (q : ∀ p H', Xt H H' → SqT K H' p ((g.take 1).map V.str) → Q (.ref p) H') : rSlA K (.ref a) none (some 1) H Q := by
  refine ⟨a, _, rfl, h, fun hw => ?_, fun hw p hp => ?_⟩
  · have h1 := hw.2
    rw [show (1 : Int) = ((1 : Nat) : Int) from rfl, sIx_nat, List.length_map] at h1
    have e : g.take 1 = g := List.take_of_length_le (by omega)
    exact q a H (Xt.refl H) (by rw [e]; exact h)
  · refine q p _ (Xt.new hp) (.inl (.inl ?_))
    rw [upd_same, show (1 : Int) = ((1 : Nat) : Int) from rfl, cut_take, List.map_take]
theorem rd_catA {K : PySem.W.Frag} {H : Hp} {Q : VK} {a b : Addr} {g h : List Str} (ha : SqT K H a (g.map V.str)) (hb : SqT K H b (h.map V.str)) (hl : g.length + h.length ≤ 100000) (q : ∀ p H', Xt H H' → SqT K H' p ((g ++ h).map V.str) → Q (.ref p) H') : rCatA K (.ref a) (.ref b) H Q := by
  have zl : 100000 ≤ sizeLine := by decide
  refine ⟨a, b, _, _, rfl, rfl, ha, hb, by rw [List.length_map, List.length_map]; omega, fun e => ?_, fun _ e => ?_, fun _ _ p hp => ?_⟩
  · have e : g = [] := List.map_eq_nil_iff.mp e
    subst e
    exact q b H (Xt.refl H) hb
  · have e : h = [] := List.map_eq_nil_iff.mp e
    subst e
    exact q a H (Xt.refl H) (by rw [List.append_nil]; exact ha)
  · refine q p _ (Xt.new hp) (.inl (.inl ?_))
    rw [upd_same, List.map_append]
theorem sk_of {K : PySem.W.Frag} {H : Hp} {p : Addr} {g : List Str} (h : SqT K H p (g.map V.str)) : NkV K H (sk g) (.ref p) := by
  unfold sk NkV
  exact ⟨p, _, rfl, h, nkA_texts g⟩
end Cq
namespace Cq
open PySem PySem.Spec PyProof.Rows L2 Gx Lw Sn Dn Wq
theorem TlOk.sub {b : Nat} {told l : List ToldT} (h : TlOk b told) (hs : ∀ x ∈ l, x ∈ told) (hl : l.length ≤ told.length + 1) : TlOk (b + 1) l := ⟨fun x hx => ⟨(h.o x (hs x hx)).1, by have := (h.o x (hs x hx)).2; omega⟩, by have := h.l; omega⟩
theorem TlOk.put {b : Nat} {told : List ToldT} {n : Nat} {x : ToldT} (h : TlOk b told) (hx : TOk x) (hl : x.2.2.length ≤ 4 + (b + 1)) : TlOk (b + 1) (told.set n x) := ⟨fun y hy => by
  rcases List.mem_or_eq_of_mem_set hy with hy | rfl
  · exact ⟨(h.o y hy).1, by have := (h.o y hy).2; omega⟩
  · exact ⟨hx, hl⟩, by rw [List.length_set]; have := h.l; omega⟩
theorem all2_set {α β : Type} {r : α → β → Prop} {x : α} {y : β} (h : r x y) : ∀ {l : List α} {m : List β} (n : Nat), All2 r l m → All2 r (l.set n x) (m.set n y)
  | _, _, _, .nil => .nil
  | _, _, 0, .cons _ h2 => .cons h h2
  | _, _, n + 1, .cons h1 h2 => .cons h1 (all2_set h n h2)
theorem ixN_nat {n k : Nat} (h : k < n) : ixN n ((k : Nat) : Int) = some k := by
  unfold ixN
  simp
  omega
end Cq
namespace Cq
open PySem PySem.Spec PyProof.Rows L2 Gx Lw Sn Dn Wq
def dS (x : Fact × Nat × List Str) : PyData := .tuple [dF x.1, .int (x.2.1 : Int), .tuple (x.2.2.map .str)]
theorem dp_strs {K : PySem.W.Frag} {H : Hp} : ∀ l : List Str, DpAll K H (l.map V.str) (l.map PyData.str)
  | [] => .nil
  | _ :: l => .cons (.str _) (dp_strs l)
theorem dp_step {K : PySem.W.Frag} {H : Hp} {x : Fact × Nat × List Str} {v : V} (h : DoneV K H x v) : Dp K H v (dS x) := by
  obtain ⟨t, fv, gv, rfl, h1, h2, h3⟩ := h
  obtain ⟨b, rfl, hb⟩ := sk_inv h3
  exact .tup (.inl (.inl h1)) (.cons (dp_fact h2) (.cons (.int _) (.cons (.tup hb (dp_strs _)) .nil)))
theorem dp_steps {K : PySem.W.Frag} {H : Hp} : ∀ {l : List (Fact × Nat × List Str)} {us : List V}, All2 (fun x v => DoneV K H x v) l us → DpAll K H us (l.map dS)
  | _, _, .nil => .nil
  | _, _, .cons h1 h2 => .cons (dp_step h1) (dp_steps h2)
theorem lay_dS {x : Fact × Nat × List Str} (h : Wf x.1) (hg : ∀ w ∈ x.2.2, Wd w) : (dS x).canLay0 = true ∧ (dS x).depth ≤ 8 := by
  obtain ⟨a1, a2⟩ := lay_dF h.1 h.2.1
  obtain ⟨b1, b2⟩ := lay_strs hg
  have e1 : (dS x).canLay0 = ((dF x.1).canLay0 && (true && (PyData.canLayAll0 (x.2.2.map .str) && true))) := rfl
  have e2 : (dS x).depth = max (dF x.1).depth (max 0 (max (PyData.depthAll (x.2.2.map .str) + 1) 0)) + 1 := rfl
  refine ⟨by rw [e1, a1, b1]; rfl, ?_⟩
  rw [e2, b2]
  have hd : (dF x.1).depth ≤ 4 := by
    have e3 : (dF x.1).depth = max 0 (max (PyData.depthAll (x.1.2.map .str) + 1) 0) + 1 := rfl
    rw [e3, (lay_strs h.2.1).2]
    decide
  omega
theorem shp_steps {l : List (Fact × Nat × List Str)} (h : ∀ x ∈ l, Wf x.1 ∧ ∀ w ∈ x.2.2, Wd w) : SeqAt.shaped (.list (l.map dS)) = true := shp_list fun d hd => by
  obtain ⟨x, hx, rfl⟩ := List.mem_map.mp hd
  exact lay_dS (h x hx).1 (h x hx).2
def lawWhole (cs : List Str) (rs : List RuleT) (fs : List Fact) (told : List ToldT) : Bool := match judge cs rs (ddF fs) told with
  | none => false
  | some S => (lawFrom cs S 0 rs).isEmpty
theorem whole_eq {cs : List Str} {rs : List RuleT} {fs : List Fact} {told : List ToldT} (hc : cs ≠ []) (h : ∀ r ∈ rs, RuleOk (wid r) r) : wholeB cs rs fs told = lawWhole cs rs fs told := by
  unfold wholeB lawWhole
  cases judge cs rs (ddF fs) told with
  | none => rfl
  | some S =>
    show (freshIn wid cs S 0 rs).isNone = (lawFrom cs S 0 rs).isEmpty
    rw [← lawFrom_head hc S rs 0 h]
    cases lawFrom cs S 0 rs <;> rfl
end Cq
namespace Cq
open PySem PySem.Spec PyProof.Rows L2 Gx Lw Sn Dn Wq
/-- a part of a tuple of texts, also the whole -/
def cutW (g : List Str) (lo hi : Option Int) : List Str := (g.drop (HT.sIx g.length 0 lo)).take (HT.sIx g.length g.length hi - HT.sIx g.length 0 lo)
theorem cutW_map (g : List Str) (lo hi : Option Int) : cutV (g.map V.str) lo hi = (cutW g lo hi).map V.str := by
  unfold cutV cutW
  rw [List.length_map, List.map_take, List.map_drop]
theorem cutW_whole {g : List Str} {lo hi : Option Int} (h : HT.sIx g.length 0 lo = 0 ∧ HT.sIx g.length g.length hi = g.length) : cutW g lo hi = g := by
  unfold cutW
  rw [h.1, h.2]
  simp
theorem map_inj {g h : List Str} (e : g.map V.str = h.map V.str) : g = h := by
  induction g generalizing h with
  | nil => cases h with
    | nil => rfl
    | cons _ _ => cases e
  | cons x g ih => cases h with
    | nil => cases e
    | cons y h =>
      simp only [List.map_cons, List.cons.injEq] at e
      injection e.1 with e1
      rw [e1, ih e.2]
theorem cutW_one (g : List Str) : cutW g (some 1) none = g.drop 1 := by
  have h := cutW_map g (some 1) none
  rw [show (1 : Int) = ((1 : Nat) : Int) from rfl, cut_drop, ← List.map_drop] at h
  exact (map_inj h).symm
theorem cutW_first (g : List Str) : cutW g none (some 1) = g.take 1 := by
  have h := cutW_map g none (some 1)
  rw [show (1 : Int) = ((1 : Nat) : Int) from rfl, cut_take, ← List.map_take] at h
  exact (map_inj h).symm
def rSlS (K : PySem.W.Frag) : V → Option Int → Option Int → Hp → VK → Prop := fun x lo hi H Q => ∃ (a : Addr) (g : List Str), x = .ref a ∧ SqT K H a (g.map V.str) ∧ ∀ p H', Xt H H' → SqT K H' p ((cutW g lo hi).map V.str) → Q (.ref p) H'
theorem sl_SK {X : Cx} {K : PySem.W.Frag} (h : X.K = K) : SlR X (rSlS K) := by
  intro pins s σ H x v vl vu lo hi sl Q I rx hs pl pu ⟨a, g, e, hg, q⟩
  refine (sl_tupAK h) pins s σ H x v vl vu lo hi sl Q I rx hs pl pu ⟨a, _, e, hg, fun hw => ?_, fun hw p hp => ?_⟩
  · rw [List.length_map] at hw
    exact q a H (Xt.refl H) (by rw [cutW_whole hw]; exact hg)
  · exact q p _ (Xt.new hp) (.inl (.inl (by rw [upd_same, cutW_map])))
def rCatS (K : PySem.W.Frag) : R2 := fun x y H Q => ∃ (a b : Addr) (g h : List Str), x = .ref a ∧ y = .ref b ∧ SqT K H a (g.map V.str) ∧ SqT K H b (h.map V.str) ∧ g.length + h.length ≤ 100000 ∧ ∀ p H', Xt H H' → SqT K H' p ((g ++ h).map V.str) → Q (.ref p) H'
theorem op_catSK {X : Cx} {K : PySem.W.Frag} (h : X.K = K) : OpR X (binaryOp .Add) (rCatS K) := by
  intro ps s σ H x y v u Q I rx ry ⟨a, b, g, g', e1, e2, h1, h2, hl, q⟩
  subst e1 e2
  exact (op_catAK h) ps s σ H _ _ v u Q I rx ry (rd_catA h1 h2 hl q)
end Cq
set_option Elab.async false
set_option linter.all false
set_option maxRecDepth 100000
set_option maxHeartbeats 4000000
/-! sorted of data of any kind that is alike -/
namespace Sq
open PySem PySem.Spec PyProof.Rows L2 Gx
abbrev srtD (l : List (V × PyData)) : List (V × PyData) := l.mergeSort (PySem.W.dataLe false Prod.snd)
def rSortD (K : PySem.W.Frag) : List V → Hp → VK → Prop := fun vs H Q => ∃ (a : Addr) (xs : List V) (ds : List PyData), vs = [V.ref a] ∧ SqL K H a xs ∧ DpAll K H xs ds ∧ PySem.W.AllAlike ds ∧ PySem.W.Sortable ds ∧ (∀ d ∈ ds, d.depth ≤ 8) ∧
  ∀ p, H p = none → Q (.ref p) (upd H p (.lst ((srtD (xs.zip ds)).map Prod.fst)))
theorem dpAll_len {K : PySem.W.Frag} {H : Hp} : ∀ {xs : List V} {ds : List PyData}, DpAll K H xs ds → ds.length = xs.length
  | _, _, .nil => rfl
  | _, _, .cons _ h => by rw [List.length_cons, List.length_cons, dpAll_len h]
theorem zip_snd {α β : Type} : ∀ {xs : List α} {ds : List β}, ds.length = xs.length → (xs.zip ds).map Prod.snd = ds
  | [], [], _ => rfl
  | x :: xs, d :: ds, h => by
    rw [List.zip_cons_cons, List.map_cons, zip_snd (by simpa using h)]
  | [], _ :: _, h => by cases h
  | _ :: _, [], h => by cases h
theorem each_vals : ∀ {xs : List V} {ds : List PyData} {us : List Value}, ds.length = xs.length → Vals xs us → PySem.W.EachIs (fun u (b : V × PyData) => RelV b.1 u) us (xs.zip ds)
  | [], [], _, _, .nil => .nil
  | x :: xs, d :: ds, _, h, .cons r t => .cons r (each_vals (by simpa using h) t)
  | [], _ :: _, _, h, _ => by cases h
  | _ :: _, [], _, h, _ => by cases h
theorem vals_each : ∀ {bs : List (V × PyData)} {us : List Value}, PySem.W.EachIs (fun u (b : V × PyData) => RelV b.1 u) us bs → Vals (bs.map Prod.fst) us
  | _, _, .nil => .nil
  | _, _, .cons r t => .cons r (vals_each t)
section
variable {X : Cx}
theorem cr_sortedD {K : PySem.W.Frag} (hK : X.K = K) (hu : X.A.units + 16 < cLine) : CallR X (.builtin "sorted") (rSortD K) := by
  subst hK
  intro pins s σ H vs us Q I r h
  obtain ⟨a, xs, ds, rfl, hs, hd, hal, hk, h8, q⟩ := h
  obtain ⟨its, rv, hl, hz⟩ := I.list hs
  obtain ⟨u, rfl, ru⟩ := vals1 r
  obtain rfl : u = Value.ref a := ru
  have hn := dpAll_len hd
  obtain ⟨as, hr⟩ := Dp.readsAll I ds _ its hd rv
  have es := zip_snd hn
  have hzl : (xs.zip ds).length = xs.length := by rw [List.length_zip, hn, Nat.min_self]
  rw [← es] at hr hal hk
  refine PySem.W.sorted_data (R := fun u (b : V × PyData) => RelV b.1 u) (enc := Prod.snd) hl.isList (each_vals hn rv) (PySem.W.readsAll_each Prod.snd hr) hal hk (by rw [hzl]; exact hz) (fun b hb => ?_) fun out hol ho => ?_
  · have h1 := h8 b.2 (by rw [← es]; exact List.mem_map.mpr ⟨b, hb, rfl⟩)
    omega
  · obtain ⟨ep, hat⟩ := sortedAll_at s.heap its out.toArray
    have hsl : ((srtD (xs.zip ds)).map Prod.fst).length ≤ sizeLine := by rw [List.length_map, List.length_mergeSort, hzl]; exact hz
    exact ⟨.ref (s.heap.objs.size + 1), upd H (s.heap.objs.size + 1) (.lst ((srtD (xs.zip ds)).map Prod.fst)), I.laid (t' := s.toks) (fun b o e => sortedAll_old e) (Nat.le_succ _) ⟨hsl, out, ep, vals_each ho, hat⟩, rfl, q _ (I.hok.fresh (Nat.le_succ _))⟩
end
end Sq
namespace Sq
theorem u16 {k : Nat} {A : PySem.Around} (r : L2.Room k A) : A.units + 16 < PySem.cLine := by have := r.units; omega
end Sq
set_option Elab.async false
set_option linter.all false
set_option maxRecDepth 100000
set_option maxHeartbeats 4000000
/-! steps that are taken, round by round -/
namespace Cq
open PySem PySem.Spec PyProof.Rows L2 Gx Lw Sn Dn Wq
/-- all stays but what stands at d -/
structure Xb (d : Addr) (H H' : Hp) : Prop where
  keep : ∀ b o, b ≠ d → H b = some o → (∀ ps, o ≠ .tbl ps) → H' b = some o
  tab : ∀ P ps, H P = some (.tbl ps) → ∃ ps', H' P = some (.tbl ps') ∧ (TriplesOk ps.toList → TriplesOk ps'.toList)
section
variable {P : Program} {w : World} {K : PySem.W.Frag} {d : Addr} {H H' H0 : Hp}
theorem Xb.of_xt (x : Xt H H') : Xb d H H' := ⟨fun b o _ e n => x.keep b o e n, x.tab⟩
theorem Xb.trans {H2 : Hp} (a : Xb d H H') (b : Xb d H' H2) : Xb d H H2 := ⟨fun c o hc h n => b.keep c o hc (a.keep c o hc h n) n, fun P ps h => by
  obtain ⟨p1, e1, f1⟩ := a.tab P ps h
  obtain ⟨p2, e2, f2⟩ := b.tab P p1 e1
  exact ⟨p2, e2, fun z => f2 (f1 z)⟩⟩
theorem Xb.base (x : Xt H0 H) (h0 : H0 d = none) (b : Xb d H H') : Xt H0 H' := ⟨fun c o e n => b.keep c o (fun z => by rw [z, h0] at e; cases e) (x.keep c o e n) n, fun P ps e => by
  obtain ⟨p1, e1, f1⟩ := x.tab P ps e
  obtain ⟨p2, e2, f2⟩ := b.tab P p1 e1
  exact ⟨p2, e2, fun z => f2 (f1 z)⟩⟩
theorem Xb.lst (x : Xb d H H') {a : Addr} {xs : List V} (ne : a ≠ d) (h : H a = some (.lst xs)) : H' a = some (.lst xs) := x.keep a _ ne h fun _ => nofun
theorem Xb.tabG {p : Addr} (x : Xb d H H') (h : GxR.TabG H p) : GxR.TabG H' p := by
  obtain ⟨ps, e, t⟩ := h
  obtain ⟨ps', e', f⟩ := x.tab p ps e
  exact ⟨ps', e', f t⟩
/-- where a table stands at d, tuples and lists stay -/
theorem Xb.lk {S : List Fact} (h : Tb P w K H d S) (x : Xb d H H') : Lk H H' := by
  obtain ⟨⟨es, e, _⟩, _⟩ := h
  refine ⟨⟨fun a xs h => x.keep a _ (fun z => by rw [z, e] at h; cases h) h fun _ => nofun, fun a o xs h => x.keep a _ (fun z => by rw [z, e] at h; cases h) h fun _ => nofun⟩, fun a xs h => x.keep a _ (fun z => by rw [z, e] at h; cases h) h fun _ => nofun⟩
theorem Xb.upT {S : List Fact} (h : Tb P w K H d S) (o : HO) : Xb d H (upd H d o) := by
  obtain ⟨⟨es, e, _⟩, _⟩ := h
  exact ⟨fun b u hb e2 _ => by rw [upd_ne hb]; exact e2, fun p ps e2 => ⟨ps, by rw [upd_ne fun z => by rw [z, e] at e2; cases e2]; exact e2, id⟩⟩
end
/-- what is taken by one rule -/
def takeT (r : RuleT) (T : List Fact) (fs : List (List Str)) : List Fact := fs.foldl (fun T f => addF T (factOf r.1 f)) T
def takeS (r : RuleT) (i : Nat) : List Fact → List (List Str) → List (Fact × Nat × List Str)
  | _, [] => []
  | T, f :: fs => if factOf r.1 f ∈ T then takeS r i T fs else (factOf r.1 f, i, f) :: takeS r i (addF T (factOf r.1 f)) fs
theorem takeT_snoc (r : RuleT) (T : List Fact) (fs : List (List Str)) (f : List Str) : takeT r T (fs ++ [f]) = addF (takeT r T fs) (factOf r.1 f) := by
  unfold takeT
  rw [List.foldl_append]
  rfl
theorem takeS_snoc (r : RuleT) (i : Nat) (f : List Str) : ∀ (fs : List (List Str)) (T : List Fact), takeS r i T (fs ++ [f]) = takeS r i T fs ++ (if factOf r.1 f ∈ takeT r T fs then [] else [(factOf r.1 f, i, f)])
  | [], T => by
    show (if factOf r.1 f ∈ T then takeS r i T [] else _) = [] ++ (if factOf r.1 f ∈ T then [] else _)
    by_cases h : factOf r.1 f ∈ T
    · rw [if_pos h, if_pos h]; rfl
    · rw [if_neg h, if_neg h]; rfl
  | g :: fs, T => by
    show (if factOf r.1 g ∈ T then takeS r i T (fs ++ [f]) else _ :: takeS r i _ (fs ++ [f])) = (if factOf r.1 g ∈ T then takeS r i T fs else _ :: takeS r i _ fs) ++ (if factOf r.1 f ∈ takeT r (addF T (factOf r.1 g)) fs then [] else _)
    by_cases h : factOf r.1 g ∈ T
    · have e : addF T (factOf r.1 g) = T := by unfold addF; rw [if_pos h]
      rw [if_pos h, if_pos h, takeS_snoc r i f fs T, e]
    · rw [if_neg h, if_neg h, takeS_snoc r i f fs _]
      rfl
theorem takeT_len (r : RuleT) : ∀ (fs : List (List Str)) (T : List Fact), (takeT r T fs).length ≤ T.length + fs.length
  | [], T => Nat.le_refl _
  | f :: fs, T => by
    show (takeT r (addF T (factOf r.1 f)) fs).length ≤ _
    have h1 := takeT_len r fs (addF T (factOf r.1 f))
    have h2 := addF_len T (factOf r.1 f)
    rw [List.length_cons]
    omega
theorem takeS_len (r : RuleT) (i : Nat) : ∀ (fs : List (List Str)) (T : List Fact), (takeS r i T fs).length ≤ fs.length
  | [], T => Nat.le_refl _
  | f :: fs, T => by
    unfold takeS
    split
    · have := takeS_len r i fs T; rw [List.length_cons]; omega
    · have := takeS_len r i fs (addF T (factOf r.1 f)); rw [List.length_cons, List.length_cons]; omega
/-- the facts of the steps are what the table grew by -/
theorem takeT_eq (r : RuleT) (i : Nat) : ∀ (fs : List (List Str)) (T : List Fact), takeT r T fs = T ++ (takeS r i T fs).map (·.1)
  | [], T => (List.append_nil T).symm
  | f :: fs, T => by
    show takeT r (addF T (factOf r.1 f)) fs = _
    unfold takeS
    by_cases h : factOf r.1 f ∈ T
    · have e : addF T (factOf r.1 f) = T := by unfold addF; rw [if_pos h]
      rw [if_pos h, e, takeT_eq r i fs T]
    · have e : addF T (factOf r.1 f) = T ++ [factOf r.1 f] := by unfold addF; rw [if_neg h]
      rw [if_neg h, takeT_eq r i fs _, e, List.map_cons, List.append_assoc]
      rfl
def spTakes (P : Program) (w : World) (K : PySem.W.Frag) (tab : Addr) : Sp := fun vs H Q _ => ∃ (p c d : Addr) (i : Nat) (rv : List V) (rs : List RuleT) (r : RuleT) (cs : List Str) (T : List Fact), vs = [.ref p, .int (i : Int), .ref c, .ref d] ∧ SqL K H p rv ∧ StepA K H wid rs rv ∧ rs[i]? = some r ∧ H c = some (.lst (cs.map V.str)) ∧ Tb P w K H d T ∧
  RuleOk (wid r) r ∧ wid r ≤ 4 ∧ cs.length ≤ 7 ∧ T.length ≤ 1000000 ∧ GxR.TabG H tab ∧
  ∀ H1 l us, Xb d H H1 → H l = none → H1 l = some (.lst us) → All2 (fun x v => DoneV K H1 x v) (takeS r i T (stepsOf r (wid r) cs T)) us → Tb P w K H1 d (takeT r T (stepsOf r (wid r) cs T)) → Q (.ref l) H1
/-- a table of names -/
def trS (ks : List Str) : List (Key × V) := ks.map fun k : Str => (Sum.inr k, V.bl true)
def spAsks (K : PySem.W.Frag) (tab : Addr) : Sp := fun vs H Q _ => ∃ (v : V) (g : Addr) (r : RuleT) (ks : List Str), vs = [v, .ref g] ∧ StepV K H r (wid r) v ∧ H g = some (.dK (trS ks)) ∧ GxR.TabG H tab ∧ ∀ H1, Xt H H1 → Q (.bl (r.2.any fun a => decide (a.1 ∈ ks))) H1
theorem val_trS (ks : List Str) (k : Str) : (valV (trS ks) (Sum.inr k : Key)).isSome = decide (k ∈ ks) := by
  induction ks with
  | nil => rfl
  | cons x ks ih =>
    show (valV ((Sum.inr x, V.bl true) :: trS ks) _).isSome = _
    by_cases h : x = k
    · subst h
      rw [valV_pos rfl]
      simp
    · rw [valV_neg fun e => h (by injection e with e), ih]
      refine decide_eq_decide.mpr ⟨fun z => List.mem_cons_of_mem _ z, fun z => (List.mem_cons.mp z).resolve_left fun e => h e.symm⟩
end Cq
namespace Cq
open PySem PySem.Spec PyProof.Rows L2 Gx Lw Sn Dn Wq
theorem Xb.mut {d p : Addr} {H H' : Hp} {o : HO} (x : Xb d H H') (h : H p = none) : Xb d H (upd H' p o) := ⟨fun b u hb e n => by
  rw [upd_ne fun z => by rw [z, h] at e; cases e]
  exact x.keep b u hb e n, fun P ps e => by
  rw [upd_ne fun z => by rw [z, h] at e; cases e]
  exact x.tab P ps e⟩
theorem anyT {α : Type} {l : List α} {p : α → Bool} {i : Nat} {x : α} (hx : l[i]? = some x) (h : p x = true) : l.any p = true := List.any_eq_true.mpr ⟨x, List.mem_of_getElem? hx, h⟩
theorem anyS {α : Type} {l : List α} {p : α → Bool} {i : Nat} {x : α} (hx : l[i]? = some x) : (l.take (i + 1)).any p = ((l.take i).any p || p x) := by
  rw [List.take_add_one, hx, List.any_append]
  show (_ || [x].any p) = _
  rw [List.any_cons, List.any_nil, Bool.or_false]
section
variable {K : PySem.W.Frag} {g : TG} {tt : TT} {te : TE} {σ' : L2.St} {Q : VK} {H : Hp}
/-- any over a list, by a list that goes beside it -/
theorem gx_any_by {α : Type} {a : Addr} {xs : List V} (ks : List α) (p : α → Bool) (hlen : xs.length = ks.length) (hl : SqL K H a xs)
    (hs : ∀ (i : Nat) v k, xs[i]? = some v → ks[i]? = some k → ∀ H' N, Xt H H' → (∀ H2, Xt H H2 → if p k = true then Q (.bl true) H2 else N H2) → gxTurn g tt te σ' true Q v H' N) (h : ∀ H', Xt H H' → Q (.bl (ks.any p)) H') :
    ∃ (W : Nat → Nat → Hp → Prop) (m : Nat), W 0 m H ∧ gxW (Itl K a) g tt te σ' true Q W := by
  refine gx_list (xs := xs) (fun i H' => Xt H H' ∧ (ks.take i).any p = false) ⟨Xt.refl H, rfl⟩ (fun i H' hp => hp.1.sqL hl) (fun i c H' hc hp => ?_) (fun H' hp => ?_)
  · obtain ⟨xt, hp⟩ := hp
    have hi : i < ks.length := by rw [← hlen]; exact (List.getElem?_eq_some_iff.mp hc).1
    have hk := List.getElem?_eq_getElem hi
    refine hs i c _ hc hk H' _ xt fun H2 x2 => ite2 (fun e => ?_) (fun e => ⟨x2, ?_⟩)
    · have q := h H2 x2
      rw [anyT hk e] at q
      exact q
    · rw [anyS hk, hp, eq_false_of_ne_true e]
      rfl
  · obtain ⟨xt, hp⟩ := hp
    rw [hlen, List.take_length] at hp
    have q := h H' xt
    rw [hp] at q
    exact q
end
end Cq
namespace Dn
open PySem PySem.Spec PyProof.Rows L2 Gx Sn Lw
def rLenDn (P : Program) (w : World) (K : PySem.W.Frag) : List V → Hp → VK → Prop := fun xs H Q => ∃ (a : Addr) (kvs : List (NestedKey × V)), xs = [.ref a] ∧ DnAt P w K H a kvs ∧ Q (.int kvs.length) H
theorem call_lenDnK {X : Cx} {P : Program} {w : World} {K : PySem.W.Frag} (hP : X.prog = P) (hw : X.w = w) (hK : X.K = K) : CallR X (.builtin "len") (rLenDn P w K) := by subst hP hw hK; exact call_lenDn
end Dn
namespace Cq
open PySem PySem.Spec PyProof.Rows L2 Gx Lw Sn Dn Wq
/-! ### closed lists of facts -/
def Closed1 (cs : List Str) (r : RuleT) (T : List Fact) : Prop := ∀ f ∈ prodN cs (wid r), there T r.2 f = true → factOf r.1 f ∈ T
def Clo (cs : List Str) (rs : List RuleT) (C : List Fact) : Prop := ∀ r ∈ rs, Closed1 cs r C
def Snd (cs : List Str) (rs : List RuleT) (S0 T : List Fact) : Prop := ∀ C : List Fact, (∀ f ∈ S0, f ∈ C) → Clo cs rs C → ∀ f ∈ T, f ∈ C
theorem there_mono {T T' : List Fact} {as : List Atom} {f : List Str} (h : ∀ g ∈ T, g ∈ T') (e : there T as f = true) : there T' as f = true := List.all_eq_true.mpr fun a ha => decide_eq_true (h _ (of_decide_eq_true (List.all_eq_true.mp e a ha)))
theorem prodC_sub {cs : List Str} {css : List (List Str)} : (∀ x ∈ css, ∀ c ∈ x, c ∈ cs) → ∀ r ∈ prodC css, ∀ c ∈ r, c ∈ cs := by
  induction css using snoc_rec with
  | h0 => intro _ r hr c hc; rw [List.mem_singleton.mp hr] at hc; cases hc
  | h1 css x ih =>
    intro h r hr
    rw [prodC_snoc] at hr
    exact grow_mem (P := fun c => c ∈ cs) (ih fun z hz => h z (List.mem_append_left _ hz)) (h x (List.mem_append_right _ (List.mem_singleton.mpr rfl))) r hr
theorem choices_sub {cs : List Str} {nm : List Nat} {n : Nat} : ∀ x ∈ choices cs nm n, ∀ c ∈ x, c ∈ cs := fun x hx c hc => by
  obtain ⟨i, _, rfl⟩ := List.mem_map.mp hx
  split at hc
  · exact hc
  · exact List.mem_of_mem_take hc
theorem steps_eq {r : RuleT} (ok : RuleOk (wid r) r) (cs : List Str) (T : List Fact) : stepsOf r (wid r) cs T = (prodC (choices cs (names r) (wid r))).filter (there T r.2) := by
  unfold stepsOf
  exact fillW_eq T fun a ha => by
    rw [choices_len]
    exact (ok.1 a ha).2.1 _ (mx_mem (ok.1 a ha).1)
theorem steps_mem {r : RuleT} (ok : RuleOk (wid r) r) {cs : List Str} {T : List Fact} {f : List Str} (h : f ∈ stepsOf r (wid r) cs T) : f ∈ prodN cs (wid r) ∧ there T r.2 f = true := by
  rw [steps_eq ok] at h
  obtain ⟨h1, h2⟩ := List.mem_filter.mp h
  have h3 := prodC_len _ f h1
  rw [choices_len] at h3
  exact ⟨prodN_all h3 (prodC_sub choices_sub f h1), h2⟩
theorem mem_takeT {r : RuleT} {g : Fact} : ∀ {fs : List (List Str)} {T : List Fact}, g ∈ takeT r T fs ↔ g ∈ T ∨ ∃ f ∈ fs, factOf r.1 f = g
  | [], T => ⟨.inl, fun h => h.elim id fun ⟨f, hf, _⟩ => by cases hf⟩
  | f :: fs, T => by
    show g ∈ takeT r (addF T (factOf r.1 f)) fs ↔ _
    rw [mem_takeT, mem_addF]
    constructor
    · rintro ((h | h) | ⟨x, hx, e⟩)
      · exact .inl h
      · exact .inr ⟨f, List.mem_cons_self .., h.symm⟩
      · exact .inr ⟨x, List.mem_cons_of_mem _ hx, e⟩
    · rintro (h | ⟨x, hx, e⟩)
      · exact .inl (.inl h)
      · rcases List.mem_cons.mp hx with rfl | hx
        · exact .inl (.inr e.symm)
        · exact .inr ⟨x, hx, e⟩
theorem take_sound {cs : List Str} {rs : List RuleT} {S0 T : List Fact} {r : RuleT} (hr : r ∈ rs) (ok : RuleOk (wid r) r) (h : Snd cs rs S0 T) : Snd cs rs S0 (takeT r T (stepsOf r (wid r) cs T)) := fun C h0 hC g hg => by
  rcases mem_takeT.mp hg with hg | ⟨f, hf, rfl⟩
  · exact h C h0 hC g hg
  · obtain ⟨h1, h2⟩ := steps_mem ok hf
    exact hC r hr f h1 (there_mono (h C h0 hC) h2)
theorem take_full {cs : List Str} (hc : cs ≠ []) {T : List Fact} {r : RuleT} (ok : RuleOk (wid r) r) {f : List Str} (hf : f ∈ prodN cs (wid r)) (ht : there T r.2 f = true) : factOf r.1 f ∈ takeT r T (stepsOf r (wid r) cs T) := by
  have en : ∀ a ∈ r.1 :: r.2, ∀ i ∈ a.2, i ∈ names r := fun a ha i hi => List.mem_flatten.mpr ⟨a.2, List.mem_map.mpr ⟨a, ha, rfl⟩, hi⟩
  have dep : Dep (names r) (wid r) fun g => decide (factOf r.1 g = factOf r.1 f) && there T r.2 g := fun g k hg hk e => by
    have h1 : factOf r.1 g = factOf r.1 k := fact_dep (en r.1 (List.mem_cons_self ..)) e
    have h2 : there T r.2 g = there T r.2 k := by
      unfold there
      rw [Bool.eq_iff_iff, List.all_eq_true, List.all_eq_true]
      have q : ∀ a ∈ r.2, factOf a g = factOf a k := fun a ha => fact_dep (en a (List.mem_cons_of_mem _ ha)) e
      exact ⟨fun z a ha => by rw [← q a ha]; exact z a ha, fun z a ha => by rw [q a ha]; exact z a ha⟩
    show (decide (factOf r.1 g = _) && there T r.2 g) = (decide (factOf r.1 k = _) && there T r.2 k)
    rw [h1, h2]
  have h1 := find_prod hc (names r) (wid r) _ dep
  cases e : (prodC (choices cs (names r) (wid r))).find? fun g => decide (factOf r.1 g = factOf r.1 f) && there T r.2 g with
  | none =>
    rw [e] at h1
    have := List.find?_eq_none.mp h1.symm f hf
    simp [ht] at this
  | some g =>
    have h2 := List.find?_some e
    have h3 := List.mem_of_find?_eq_some e
    obtain ⟨h4, h5⟩ := Bool.and_eq_true _ _ ▸ h2
    refine mem_takeT.mpr (.inr ⟨g, ?_, of_decide_eq_true h4⟩)
    rw [steps_eq ok]
    exact List.mem_filter.mpr ⟨h3, h5⟩
end Cq
namespace Cq
open PySem PySem.Spec PyProof.Rows L2 Gx Lw Sn Dn Wq
theorem put_trS (ks : List Str) (k : Str) : putK (trS ks) (Sum.inr k : Key) (V.bl true) = trS (if k ∈ ks then ks else ks ++ [k]) := by
  have e : ((trS ks).any fun kv => decide (kv.1 = (Sum.inr k : Key))) = decide (k ∈ ks) := by
    rw [Bool.eq_iff_iff, List.any_eq_true, decide_eq_true_iff]
    constructor
    · rintro ⟨p, hp, h⟩
      obtain ⟨z, hz, rfl⟩ := List.mem_map.mp hp
      have h2 : (Sum.inr z : Key) = Sum.inr k := of_decide_eq_true h
      injection h2 with h2
      rwa [← h2]
    · exact fun h => ⟨_, List.mem_map.mpr ⟨k, h, rfl⟩, decide_eq_true rfl⟩
  unfold putK
  rw [e]
  by_cases h : k ∈ ks
  · rw [if_pos (decide_eq_true h), if_pos h]
    unfold trS
    rw [List.map_map]
    refine List.map_congr_left fun z _ => ?_
    show (if (Sum.inr z : Key) = Sum.inr k then _ else _) = _
    split <;> rfl
  · rw [if_neg (by simpa using h), if_neg h]
    unfold trS
    rw [List.map_append]
    rfl
theorem addF_nodup {S : List Fact} {f : Fact} (h : S.Nodup) : (addF S f).Nodup := by
  unfold addF
  by_cases e : f ∈ S
  · rw [if_pos e]; exact h
  · rw [if_neg e]
    exact nodup_app h (by simp) fun x hx hx2 => e (List.mem_singleton.mp hx2 ▸ hx)
theorem takeT_nodup {r : RuleT} : ∀ {fs : List (List Str)} {T : List Fact}, T.Nodup → (takeT r T fs).Nodup
  | [], T, h => h
  | f :: fs, T, h => takeT_nodup (fs := fs) (T := addF T (factOf r.1 f)) (addF_nodup h)
theorem ddF_nodup (l : List Fact) : (ddF l).Nodup := by
  induction l using snoc_rec with
  | h0 => exact List.nodup_nil
  | h1 l f ih => rw [ddF_snoc]; exact addF_nodup ih
def asksB (rs : List RuleT) (ks : List Str) (i : Nat) : Bool := match rs[i]? with
  | none => false
  | some r => r.2.any fun a => decide (a.1 ∈ ks)
def spWholeS (K : PySem.W.Frag) (C tab tab2 : Addr) : Sp := fun vs H Q E => ∃ (p c q : Addr) (rv fv : List V) (rs : List RuleT) (cs : List Str) (fs : List Fact), vs = [.ref p, .ref c, .ref q, .int 200] ∧ SqL K H p rv ∧ StepA K H wid rs rv ∧ H c = some (.lst (cs.map V.str)) ∧ SqL K H q fv ∧ NkA K H (fs.map fk) fv ∧
  cs ≠ [] ∧ cs.length ≤ 7 ∧ rs.length ≤ 1000 ∧ (∀ r ∈ rs, RuleOk (wid r) r ∧ wid r ≤ 4) ∧ fs.length ≤ 200 ∧ GxR.TabG H tab ∧ GxR.TabG H tab2 ∧
  (∀ H1 l us steps, Xt H H1 → H l = none → H1 l = some (.lst us) → All2 (fun x v => DoneV K H1 x v) steps us → (ddF fs ++ steps.map (·.1)).length ≤ 200 → (ddF fs ++ steps.map (·.1)).Nodup → Clo cs rs (ddF fs ++ steps.map (·.1)) → Snd cs rs (ddF fs) (ddF fs ++ steps.map (·.1)) → Q (.ref l) H1) ∧
  (∀ H1 dd T, Xt H H1 → Snd cs rs (ddF fs) T → T.Nodup → 200 < T.length → H1 dd = some (.xd [("limit", .str (Str.ofString "facts"))]) → E (.ref C) (some dd) H1)
/-- what a round leaves -/
theorem closed_round {cs : List Str} {rs : List RuleT} {T : List Fact} {news : List Fact} {ws : List Nat} {ks : List Str} {r : RuleT} {i : Nat} (ok : RuleOk (wid r) r) (hr : rs[i]? = some r) (hk : ∀ f ∈ news, f.1 ∈ ks) (hn : asksB rs ks i = false)
    (h1 : i ∉ ws → Closed1 cs r T) (h2 : i ∈ ws → ∀ f ∈ prodN cs (wid r), there T r.2 f = true → factOf r.1 f ∈ T ++ news) : Closed1 cs r (T ++ news) := fun f hf ht => by
  have ha : r.2.any (fun a => decide (a.1 ∈ ks)) = false := by
    unfold asksB at hn
    rw [hr] at hn
    exact hn
  have hT : there T r.2 f = true := List.all_eq_true.mpr fun a hm => decide_eq_true (by
    have h3 : factOf a f ∈ T ++ news := of_decide_eq_true (List.all_eq_true.mp ht a hm)
    rcases List.mem_append.mp h3 with h3 | h3
    · exact h3
    · exfalso
      have h4 : (factOf a f).1 ∈ ks := hk _ h3
      have h5 := List.any_eq_false.mp ha a hm
      exact h5 (decide_eq_true h4))
  by_cases hw : i ∈ ws
  · exact h2 hw f hf hT
  · exact List.mem_append_left _ (h1 hw f hf hT)
end Cq
namespace Cq
open PySem PySem.Spec PyProof.Rows L2 Gx Lw Sn Dn Wq
theorem rgV_nat (n : Nat) : rgV 0 (n : Int) = nI (List.range n) := by
  unfold rgV
  rw [show ((n : Int) - 0).toNat = n by omega]
  refine List.map_congr_left fun i _ => ?_
  show V.int (0 + (i : Int)) = _
  rw [Int.zero_add]
end Cq
set_option Elab.async false
set_option linter.all false
set_option maxRecDepth 100000
set_option maxHeartbeats 4000000
namespace K40
open PySem PySem.Spec PyProof.Rows L2 Gx Wq Lw Cq

open Ct
def ColV (H : Hp) (cs : List Nat) (v : V) : Prop := ∃ p, v = .ref p ∧ H p = some (.lst (nI cs))
theorem ColV.xt {H H' : Hp} {cs : List Nat} {v : V} (x : Xt H H') (h : ColV H cs v) : ColV H' cs v := by
  obtain ⟨p, e, h⟩ := h
  exact ⟨p, e, x.lst h⟩
def spChoices (K : PySem.W.Frag) : Sp := fun vs H Q _ => ∃ (p : Addr) (cs : List Nat) (k : Nat), vs = [.ref p, .int (k : Int)] ∧ SqL K H p (nI cs) ∧ Q (.int (giv cs k : Nat)) H
def oneV (cs r : List Nat) : V → Bool
  | .int z => decide (z.toNat < cs.length) && decide (cs.getD z.toNat 0 = cs.getD (r.headD 0) 0)
  | _ => false
theorem oneV_all (cs r : List Nat) : (nI r).all (oneV cs r) = mono cs r := by
  unfold mono
  rw [List.all_map]
  rfl
theorem atI_nI {cs : List Nat} {x : Nat} (h : x < cs.length) : atI (nI cs) (x : Int) = some (.int ((cs.getD x 0 : Nat) : Int)) := by
  rw [atI_nat (j := x)]
  rw [List.getElem?_map, List.getElem?_eq_getElem h, List.getD_eq_getElem?_getD, List.getElem?_eq_getElem h]
  rfl
theorem dec_nat (x y : Nat) : decide (V.int (x : Int) = V.int (y : Int)) = decide (x = y) := by
  by_cases h : x = y
  · rw [h, decide_eq_true rfl, decide_eq_true rfl]
  · rw [decide_eq_false h, decide_eq_false fun z => h (by injection z with z; exact Int.ofNat.inj z)]

/-- the numbers of the first n lots, by their last thing; E says which lists are its own -/
structure NumT (S : Addr → Prop) (H : Hp) (q : Addr) (ls : List (List Nat)) (n : Nat) : Prop where
  ex : ∃ kvs : List (Key × V), H q = some (.dK kvs) ∧ kvs.length ≤ n ∧ (∀ l : Nat, (valV kvs (Sum.inl (l : Int) : Key) = none ∧ numsN ls n l = []) ∨ ∃ p, valV kvs (Sum.inl (l : Int) : Key) = some (.ref p) ∧ S p ∧ H p = some (.lst (nI (numsN ls n l)))) ∧
    ∀ l l' p, valV kvs (Sum.inl ((l : Nat) : Int) : Key) = some (.ref p) → valV kvs (Sum.inl ((l' : Nat) : Int) : Key) = some (.ref p) → l = l'
theorem NumT.xt {S : Addr → Prop} {H H' : Hp} {q : Addr} {ls : List (List Nat)} {n : Nat} (h : NumT S H q ls n) (x : Xt H H') : NumT S H' q ls n := by
  obtain ⟨kvs, h1, h2, h3, h4⟩ := h.ex
  refine ⟨kvs, x.keep _ _ h1 (fun _ => nofun), h2, fun l => ?_, h4⟩
  rcases h3 l with z | ⟨p, a, b, c⟩
  · exact .inl z
  · exact .inr ⟨p, a, b, x.lst c⟩
theorem nums_step {ls : List (List Nat)} {n : Nat} {r : List Nat} (h : ls[n]? = some r) (l : Nat) : numsN ls (n + 1) l = numsN ls n l ++ if lastN r = l then [n] else [] := by
  unfold numsN
  have e : ls.getD n [] = r := by rw [List.getD_eq_getElem?_getD, h]; rfl
  rw [List.range_succ, List.filter_append, List.filter_cons, List.filter_nil, e]
  congr 1
  by_cases z : lastN r = l
  · rw [if_pos z, decide_eq_true z]; rfl
  · rw [if_neg z, decide_eq_false z]; rfl
def spNBL (K : PySem.W.Frag) : Sp := fun vs H Q _ => ∃ (q : Addr) (ls : List (List Nat)) (us : List V) (cnt : Nat), vs = [.ref q] ∧ SqL K H q us ∧ RowA H ls us ∧ Lts cnt ls ∧ ∀ H1 e, Xt H H1 → H e = none → NumT (fun _ => True) H1 e ls ls.length → Q (.ref e) H1
def spFoc (K : PySem.W.Frag) (P : Addr) : Sp := fun vs H Q _ => ∃ (q e p : Addr) (ls : List (List Nat)) (us : List V) (cs : List Nat) (cnt : Nat), vs = [.ref q, .ref e, .ref p] ∧ SqL K H q us ∧ RowA H ls us ∧ Lts cnt ls ∧ NumT (fun _ => True) H e ls ls.length ∧ SqL K H p (nI cs) ∧ cs ≠ [] ∧ GxR.TabG H P ∧ ∀ H1 v, Xt H H1 → decide (v = .non) = fineB ls cs → Q v H1
section
variable {P : Program} {w : World} {K : PySem.W.Frag} {mg : Str → Option Value} {base : Heap} {a : Ads}
theorem ok_choices_for (T : Txt K mg a) (B : TabT base mg a) : FnOk P w K mg base CX0 1 a.f_choices_for a.fd_choices_for ["colours", "k"] (spChoices K) := by
  refine T.F_choices_for.ok sc_choices_for (fun vs H Q E h => ?_) (fun A outer s H vs Q E hr h => ?_)
  · obtain ⟨p, cs, k, rfl, _⟩ := h
    rfl
  · obtain ⟨p, cs, k, rfl, hs, kQ⟩ := h
    refine ⟨_, (pss_cons (ps_set (i := 2) sc_choices_for.nd rfl (.inl rfl) (pe_op op_add (pe_callBK (Wq.cr_maxD (K := K) rfl rfl (hu_of hr)) rfl T.max (by decide +kernel) (pa_cons (pv 0) pa_nil) (pk_cons (pe_un un_neg pe_int) pk_nil)) pe_int))
 (pss_one (ps_ret (pe_callB (call_min2 rfl) rfl T.min (by decide +kernel) (pa_cons (pe_op op_add (pv 2) pe_int) (pa_cons (pv 1) pa_nil)))))), ?_⟩
    refine ⟨_, rfl, _, rfl, p, -1, cs.map fun n : Nat => (n : Int), rfl, rfl, by rw [nI_int] at hs; exact hs, _, _, rfl, rfl, ?_⟩
    refine ⟨_, rfl, _, _, rfl, rfl, _, rfl, _, _, rfl, ?_⟩
    have e := used_int cs
    have e2 : (if (k : Int) < maxDf (cs.map fun n : Nat => (n : Int)) (-1) + 1 + 1 then (k : Int) else maxDf (cs.map fun n : Nat => (n : Int)) (-1) + 1 + 1) = ((giv cs k : Nat) : Int) := by
      rw [e]
      unfold giv
      split <;> omega
    show Q (.int (if (k : Int) < maxDf (cs.map fun n : Nat => (n : Int)) (-1) + 1 + 1 then (k : Int) else maxDf (cs.map fun n : Nat => (n : Int)) (-1) + 1 + 1)) H
    rw [e2]
    exact kQ


theorem ok_numbers_by_last (T : Txt K mg a) (B : TabT base mg a) : FnOk P w K mg base CX0 1 a.f_numbers_by_last a.fd_numbers_by_last ["lots"] (spNBL K) := by
  refine T.F_numbers_by_last.ok sc_numbers_by_last (fun vs H Q E h => ?_) (fun A outer s H vs Q E hr h => ?_)
  · obtain ⟨q, ls, us, cnt, rfl, _⟩ := h
    rfl
  · obtain ⟨q, ls, us, cnt, rfl, hq, hR, hL, kQ⟩ := h
    refine ⟨_, (pss_cons (ps_set (i := 1) sc_numbers_by_last.nd rfl (.inl rfl) pe_dnewK)
 (pss_cons (ps_for PassesOwn.never rfl (Gx.pi_enumK (K := K) rfl rfl T.enumerate (pa_cons (pv 0) pa_nil)) (Gx.pg_tupK (K := K) rfl (n := 2) rfl (pgs_cons (pg_name (i := 2) sc_numbers_by_last.nd rfl (.inl rfl)) (pgs_cons (pg_name (i := 3) sc_numbers_by_last.nd rfl (.inl rfl)) pgs_nil)))
  (pss_one (ps_expr (Gx.pe_bmK (K := K) rfl PySem.F.plainAttrs_list PySem.F.slot_list_append PySem.F.type_list_append mt_append (pe_dsetd (pv 1) (pe_ix (Gx.ix_tupK (K := K) rfl) (pv 3) (pe_un un_neg pe_int) (fun _ _ => rfl)) (pe_lst pa_nil) ⟨rfl, rfl, rfl, rfl⟩) (pa_cons (pv 2) pa_nil)))))
 (pss_one (ps_ret (pv 1))))), ?_⟩
    have zl : 200001 ≤ sizeLine := by decide
    have hl8 := hL.n8
    refine fun e he => ?_
    refine ⟨_, rfl, q, us, rfl, (Xt.new he).sqL hq, for_enum (xs := us) (fun i σ H' => ∃ p2 p3 : Option V, σ = [some (.ref q), some (.ref e), p2, p3] ∧ Xt H H' ∧ NumT (fun p => H p = none ∧ p ≠ e) H' e ls i)
      ⟨none, none, rfl, Xt.new he, ⟨[], upd_same .., Nat.le_refl _, fun l => .inl ⟨rfl, rfl⟩, fun l l' p h => by cases h⟩⟩ (fun i σ H' hh => ?_) (fun i x T σ H' hx hh hT0 => ?_) (fun σ H' hh => ?_)⟩
    · obtain ⟨p2, p3, rfl, xt, _⟩ := hh
      exact xt.sqL hq
    · obtain ⟨p2, p3, rfl, xt, hN⟩ := hh
      obtain ⟨r, hr1, hrV⟩ := hR.at hx
      have hi : i < ls.length := (List.getElem?_eq_some_iff.mp hr1).1
      have x1 : Xt H' (upd H' T (.tup [.int (i : Nat), x])) := Xt.new hT0
      have hT1 : upd H' T (.tup [.int (i : Nat), x]) T = some (.tup [.int (i : Nat), x]) := upd_same ..
      generalize upd H' T (.tup [.int (i : Nat), x]) = H1 at x1 hT1
      have y1 := xt.trans x1
      obtain ⟨t, rfl, ht⟩ := hrV.xt y1
      have hN1 := hN.xt x1
      have hok := hL.ok r (List.mem_of_getElem? hr1)
      have hlast : atI (nI r) (-1) = some (.int ((lastN r : Nat) : Int)) := by
        obtain ⟨l, y, rfl⟩ : ∃ l y, r = l ++ [y] := ⟨r.dropLast, r.getLast hok.ne, (List.dropLast_concat_getLast hok.ne).symm⟩
        unfold lastN
        rw [List.getLastD_concat, show nI (l ++ [y]) = nI l ++ [.int (y : Int)] from List.map_append, atI_last]
      refine ⟨T, _, rfl, .inl (.inl hT1), rfl, _, _, rfl, _, _, rfl, rfl, ?_⟩
      obtain ⟨kvs, k1, k2, k3, k4⟩ := hN1.ex
      have fin : ∀ (pz : Addr) (H3 : Hp), Xt H H3 → H3 e = some (.dK (putK kvs (Sum.inl ((lastN r : Nat) : Int) : Key) (.ref pz))) → True := fun _ _ _ _ => trivial
      refine ⟨_, rfl, e, rfl, .inl ⟨_, .inl k1⟩, _, rfl, _, rfl, t, _, _, _, rfl, rfl, .inl (.inl ht), hlast, Nat.zero_le _, fun l0 hl0 => ?_⟩
      have z1 : Xt H1 (upd H1 l0 (.lst [])) := Xt.new hl0
      have h0 : upd H1 l0 (.lst []) l0 = some (.lst []) := upd_same ..
      generalize upd H1 l0 (.lst []) = H2 at z1 h0
      have k1' := z1.keep _ _ k1 fun _ => nofun
      refine ⟨kvs, (Sum.inl ((lastN r : Nat) : Int) : Key), k1', rfl, by omega, fun v hv => ?_, fun hno => ?_⟩
      · rcases k3 (lastN r) with ⟨n1, _⟩ | ⟨p, a1, a2, a3⟩
        · rw [n1] at hv
          cases hv
        · rw [a1] at hv
          cases hv
          have a3' := z1.lst a3
          refine ⟨.inl ⟨rfl, _, .inl (.inl a3')⟩, _, rfl, p, _, _, rfl, rfl, a3', by rw [nI_len]; have := List.length_filter_le (fun j => decide (lastN (ls.getD j []) = lastN r)) (List.range i); rw [List.length_range] at this; unfold numsN; omega, _, _, rfl, (y1.trans z1).mut a2.1, ⟨kvs, by rw [upd_ne a2.2.symm]; exact k1', by omega, fun l => ?_, k4⟩⟩
          rw [nums_step hr1]
          by_cases hl : lastN r = l
          · subst hl
            refine .inr ⟨p, a1, a2, ?_⟩
            rw [upd_same, if_pos rfl, show nI (numsN ls i (lastN r) ++ [i]) = nI (numsN ls i (lastN r)) ++ [.int (i : Int)] from List.map_append]
          · rw [if_neg hl, List.append_nil]
            rcases k3 l with z | ⟨p', b1, b2, b3⟩
            · exact .inl z
            · refine .inr ⟨p', b1, b2, ?_⟩
              rw [upd_ne fun z => by rw [z] at b1; exact hl (k4 _ _ p a1 b1)]
              exact z1.lst b3
      · have hl0H : H l0 = none := y1.free hl0
        have hl0e : l0 ≠ e := fun z => by rw [z, k1] at hl0; cases hl0
        have g0 : upd H2 e (.dK (putK kvs (Sum.inl ((lastN r : Nat) : Int) : Key) (.ref l0))) l0 = some (.lst []) := by rw [upd_ne hl0e]; exact h0
        have ge : upd H2 e (.dK (putK kvs (Sum.inl ((lastN r : Nat) : Int) : Key) (.ref l0))) e = some (.dK (putK kvs (Sum.inl ((lastN r : Nat) : Int) : Key) (.ref l0))) := upd_same ..
        have gx : Xt H (upd H2 e (.dK (putK kvs (Sum.inl ((lastN r : Nat) : Int) : Key) (.ref l0)))) := (y1.trans z1).mut he
        have go : ∀ b, b ≠ e → upd H2 e (.dK (putK kvs (Sum.inl ((lastN r : Nat) : Int) : Key) (.ref l0))) b = H2 b := fun b hb => upd_ne hb
        generalize upd H2 e (.dK (putK kvs (Sum.inl ((lastN r : Nat) : Int) : Key) (.ref l0))) = H3 at g0 ge gx go
        have hnl : numsN ls i (lastN r) = [] := by
          rcases k3 (lastN r) with ⟨_, z⟩ | ⟨p, b1, _⟩
          · exact z
          · rw [hno] at b1
            cases b1
        refine ⟨.inl ⟨rfl, _, .inl (.inl g0)⟩, _, rfl, l0, _, _, rfl, rfl, g0, by show 0 < sizeLine; decide, _, _, rfl, gx.mut hl0H, ⟨_, by rw [upd_ne hl0e.symm]; exact ge, by rw [putK_new _ hno, List.length_append]; show kvs.length + 1 ≤ i + 1; omega, fun l => ?_, fun l l' p h1 h2 => ?_⟩⟩
        · rw [nums_step hr1, valV_put]
          by_cases hl : lastN r = l
          · subst hl
            refine .inr ⟨l0, if_pos rfl, ⟨hl0H, hl0e⟩, ?_⟩
            rw [upd_same, if_pos rfl, hnl]
            rfl
          · rw [if_neg hl, List.append_nil, if_neg fun z => hl (by injection z with z; exact (Int.ofNat.inj z).symm)]
            rcases k3 l with z | ⟨p', b1, b2, b3⟩
            · exact .inl z
            · refine .inr ⟨p', b1, b2, ?_⟩
              have hp0 : p' ≠ l0 := fun z => by rw [z] at b3; rw [b3] at hl0; cases hl0
              rw [upd_ne hp0, go _ b2.2]
              exact z1.lst b3
        · have old : ∀ l, valV kvs (Sum.inl ((l : Nat) : Int) : Key) ≠ some (.ref l0) := fun l z => by
            rcases k3 l with ⟨n1, _⟩ | ⟨p', b1, b2, b3⟩
            · rw [n1] at z
              cases z
            · rw [b1] at z
              cases z
              rw [b3] at hl0
              cases hl0
          have ki : ∀ l : Nat, ((Sum.inl (l : Int) : Key) = Sum.inl ((lastN r : Nat) : Int)) → l = lastN r := fun l z => by injection z with z; exact Int.ofNat.inj z
          rw [valV_put] at h1 h2
          split at h1 <;> split at h2
          · rename_i e1 e2
            rw [ki _ e1, ki _ e2]
          · cases h1
            exact absurd h2 (old _)
          · cases h2
            exact absurd h1 (old _)
          · exact k4 _ _ _ h1 h2
    · obtain ⟨p2, p3, rfl, xt, hN⟩ := hh
      refine ⟨_, rfl, kQ _ _ xt he ?_⟩
      rw [hR.len] at hN
      obtain ⟨kvs, k1, k2, k3, k4⟩ := hN.ex
      refine ⟨kvs, k1, k2, fun l => ?_, k4⟩
      rcases k3 l with z | ⟨p, a, b, c⟩
      · exact .inl z
      · exact .inr ⟨p, a, trivial, c⟩


theorem ok_first_of_one_colour (T : Txt K mg a) (B : TabT base mg a) : FnOk P w K mg base CX0 2 a.f_first_of_one_colour a.fd_first_of_one_colour ["lots", "ending", "colours"] (spFoc K a.P_first_of_one_colour) := by
  refine T.F_first_of_one_colour.ok sc_first_of_one_colour (fun vs H Q E h => ?_) (fun A outer s H vs Q E hr h => ?_)
  · obtain ⟨q, e, p, ls, us, cs, cnt, rfl, _⟩ := h
    rfl
  · obtain ⟨q, e, p, ls, us, cs, cnt, rfl, hq, hR, hL, hN, hs, hne, hT, kQ⟩ := h
    refine ⟨_, (pss_cons (ps_for PassesOwn.never rfl (Gx.pi_listK (K := K) rfl (pe_dget2 (hu_of hr) (pv 1) (pe_op op_sub (pe_callB (Gx.call_len_seqK (K := K) rfl) rfl T.len (by decide +kernel) (pa_cons (pv 2) pa_nil)) pe_int) (pe_lst pa_nil) ⟨rfl, rfl, rfl, rfl⟩)) (pg_name (i := 3) sc_first_of_one_colour.nd rfl (.inl rfl))
  (pss_one (ps_if (pt_val (Gx.pe_allG (own := ["thing"]) (caps := ["colours"]) (cix := [2]) hr rfl T.all B.tab_first_of_one_colour rfl (Gx.gxs_by (sc := defScope s_first_of_one_colour) (N := ["lots", "ending", "colours", "number"]) (by decide +kernel)) (Gx.pi_tupK (K := K) rfl (pe_ix (Gx.ix_listK (K := K) rfl) (pv 0) (pv 3) (fun _ _ => rfl))) (fun A s H C cl code bi fp pn hr' => (pg_name (i := 0) (Gx.ndw (own := ["thing"]) (caps := ["colours"]) (by decide +kernel)) rfl (.inl rfl))) (fun A s H C cl code bi fp pn hr' => pts_nil) (fun A s H C cl code bi fp pn hr' => (pe_cmpR op_eq (pe_ix (Gx.ix_listK (K := K) rfl) (pv 1) (pv 0) (fun _ _ => rfl)) (pe_ix (Gx.ix_listK (K := K) rfl) (pv 1) (pe_un un_neg pe_int) (fun _ _ => rfl)) (nomark _)))))
  (pss_one (ps_ret (pv 3)))
  pss_nil)))
 (pss_one (ps_ret pe_non))), ?_⟩
    have zl : 200001 ≤ sizeLine := by decide
    have hl8 := hL.n8
    have hpos : 0 < cs.length := List.length_pos_iff.mpr hne
    obtain ⟨kvs, k1, k2, k3, k4⟩ := hN.ex
    refine ⟨_, rfl, e, rfl, .inl ⟨_, .inl k1⟩, _, rfl, p, _, rfl, .inl hs, _, _, rfl, rfl, Nat.zero_le _, fun l0 hl0 => ?_⟩
    have z1 : Xt H (upd H l0 (.lst [])) := Xt.new hl0
    have h0 : upd H l0 (.lst []) l0 = some (.lst []) := upd_same ..
    generalize upd H l0 (.lst []) = H2 at z1 h0
    have ek : V.int (((nI cs).length : Int) - 1) = kV (Sum.inl ((cs.length - 1 : Nat) : Int) : Key) := by
      show V.int _ = V.int _
      rw [nI_len]
      congr 1
      omega
    refine ⟨valV kvs (Sum.inl ((cs.length - 1 : Nat) : Int) : Key), (show DGet H2 e (V.int (((nI cs).length : Int) - 1)) _ by rw [ek]; exact DGet.k (z1.keep _ _ k1 fun _ => nofun)), ?_⟩
    obtain ⟨g, eg, hg⟩ : ∃ g, (valV kvs (Sum.inl ((cs.length - 1 : Nat) : Int) : Key)).getD (.ref l0) = .ref g ∧ H2 g = some (.lst (nI (numsN ls ls.length (cs.length - 1)))) := by
      rcases k3 (cs.length - 1) with ⟨a1, a2⟩ | ⟨g, a1, _, a3⟩
      · exact ⟨l0, by rw [a1]; rfl, by rw [a2]; exact h0⟩
      · exact ⟨g, by rw [a1]; rfl, z1.lst a3⟩
    rw [eg]
    refine ⟨g, rfl, ⟨_, .inl (.inl hg)⟩, for_list (xs := nI (numsN ls ls.length (cs.length - 1))) (fun i σ H' => ∃ c3 : Option V, σ = [some (.ref q), some (.ref e), some (.ref p), c3] ∧ Xt H H' ∧ Xt H2 H' ∧ ∀ j ∈ (numsN ls ls.length (cs.length - 1)).take i, mono cs (ls.getD j []) = false)
      ⟨none, rfl, z1, Xt.refl _, fun j h => by cases h⟩ (fun i σ H' _ hh => ?_) (fun i v σ H' hv hh => ?_) (fun σ H' hh => ?_)⟩
    · obtain ⟨c3, rfl, x1, x2, hno⟩ := hh
      exact .inl (.inl (x2.lst hg))
    · obtain ⟨c3, rfl, x1, x2, hno⟩ := hh
      obtain ⟨j, hj, rfl⟩ := nI_at hv
      have hjm := List.mem_of_getElem? hj
      have hjn : j < ls.length ∧ lastN (ls.getD j []) = cs.length - 1 := by
        unfold numsN at hjm
        rw [List.mem_filter, List.mem_range] at hjm
        exact ⟨hjm.1, of_decide_eq_true hjm.2⟩
      obtain ⟨hjl, hjlast⟩ := hjn
      have hR' := hR.xt x1
      obtain ⟨v, hv2, hrv⟩ := hR'.get (List.getElem?_eq_getElem hjl)
      have ed : ls.getD j [] = ls[j] := by rw [List.getD_eq_getElem?_getD, List.getElem?_eq_getElem hjl]; rfl
      have hok := hL.ok ls[j] (List.getElem_mem hjl)
      have hll := (lotLast hok).2
      rw [← ed] at hrv hok hll
      generalize hrow : ls.getD j [] = r at *
      obtain ⟨t, rfl, ht⟩ := hrv
      obtain ⟨y, tl, rfl, hy⟩ := hok.head
      have hat : atI us (j : Int) = some (.ref t) := atI_nat hv2
      have hlt : ∀ x ∈ y :: tl, x < cs.length := fun x hx => by have := hll x hx; omega
      have hTz := x1.tabG hT
      refine ⟨_, rfl, _, rfl, q, us, _, _, rfl, rfl, x1.sqL hq, hat, t, rfl, ⟨_, .inl (.inl ht)⟩, hTz, fun H3 t3 => ?_⟩
      have x3 : Xt H' H3 := Xt.tabbed hTz t3
      -- the test asks for the last thing's colour
      have hmem : lastN (y :: tl) ∈ y :: tl := by
        have e : lastN (y :: tl) = (y :: tl).getLast (by simp) := by unfold lastN; rw [List.getLastD_eq_getLast?, List.getLast?_eq_some_getLast (by simp)]; rfl
        rw [e]
        exact List.getLast_mem _
      have hlastc : atI (nI cs) (-1) = some (.int ((cs.getD (cs.length - 1) 0 : Nat) : Int)) := by
        obtain ⟨l, z, rfl⟩ : ∃ l z, cs = l ++ [z] := ⟨cs.dropLast, cs.getLast hne, (List.dropLast_concat_getLast hne).symm⟩
        rw [show nI (l ++ [z]) = nI l ++ [.int (z : Int)] from List.map_append, atI_last]
        congr 2
        simp
      have em : ((nI (y :: tl)).all fun v => match v with | .int z => decide (cs.getD z.toNat 0 = cs.getD (cs.length - 1) 0) | _ => false) = mono cs (y :: tl) := by
        rw [List.all_map, Bool.eq_iff_iff]
        unfold mono
        rw [List.all_eq_true, List.all_eq_true]
        have el := hjlast
        constructor
        · intro h x hx
          have h1 := of_decide_eq_true (h x hx)
          have h2 := of_decide_eq_true (h y (List.mem_cons_self ..))
          have h1 : cs.getD x 0 = cs.getD (cs.length - 1) 0 := h1
          have h2 : cs.getD y 0 = cs.getD (cs.length - 1) 0 := h2
          rw [Bool.and_eq_true]
          exact ⟨decide_eq_true (hlt x hx), decide_eq_true (by show cs.getD x 0 = cs.getD y 0; rw [h1, h2])⟩
        · intro h x hx
          have h1 := (Bool.and_eq_true _ _ ▸ h x hx).2
          have h2 := (Bool.and_eq_true _ _ ▸ h _ hmem).2
          have h1 : cs.getD x 0 = cs.getD y 0 := of_decide_eq_true h1
          have h2 : cs.getD (lastN (y :: tl)) 0 = cs.getD y 0 := of_decide_eq_true h2
          rw [el] at h2
          exact decide_eq_true (by show cs.getD x 0 = _; rw [h1, h2])
      refine gx_all_tup (fun v => match v with | .int z => decide (cs.getD z.toNat 0 = cs.getD (cs.length - 1) 0) | _ => false) (.inl (.inl (x3.tup ht))) (fun v hv H4 N x4 kk => ?_) fun H4 x4 => ?_
      · obtain ⟨x, hx, rfl⟩ := List.mem_map.mp hv
        have hs4 := ((x1.trans x3).trans x4).sqL hs
        have kk' := kk _ (x4.trans (Xt.refl _))
        refine ⟨wk_set rfl, _, rfl, _, rfl, p, _, _, _, rfl, rfl, hs4, atI_nI (hlt x hx), _, rfl, _, rfl, p, _, _, _, rfl, rfl, hs4, hlastc, rfl, _, rfl, ?_⟩
        rw [dec_nat]
        exact kk'
      · have x14 := (x1.trans x3).trans x4
        rw [em]
        refine ⟨_, rfl, ite2 (fun hb => ?_) (fun hb => ?_)⟩
        · refine ⟨_, rfl, kQ _ _ x14 ?_⟩
          have hf : fineB ls cs = false := by
            refine eq_false_of_ne_true fun z => ?_
            unfold fineB at z
            rw [List.all_eq_true] at z
            have := z j hjm
            rw [hrow, hb] at this
            cases this
          rw [hf]
          rfl
        · refine ⟨_, rfl, x14, x2.trans (x3.trans x4), fun j2 h2 => ?_⟩
          rw [List.take_add_one, hj] at h2
          rcases List.mem_append.mp h2 with h2 | h2
          · exact hno j2 h2
          · rw [List.mem_singleton.mp h2, hrow]
            exact eq_false_of_ne_true hb
    · obtain ⟨c3, rfl, x1, x2, hno⟩ := hh
      refine kQ _ _ x1 ?_
      rw [List.take_of_length_le (by rw [nI_len]; exact Nat.le_refl _)] at hno
      have hf : fineB ls cs = true := by
        unfold fineB
        rw [List.all_eq_true]
        intro j hj
        rw [hno j hj]
        rfl
      rw [hf]
      rfl


end
end K40
set_option Elab.async false
set_option linter.all false
set_option maxRecDepth 100000
set_option maxHeartbeats 4000000
namespace K40
open PySem PySem.Spec PyProof.Rows L2 Gx Wq Lw Cq

open Ct
theorem shp_ints (l : List Nat) : SeqAt.shaped (.list (l.map fun n : Nat => .int (n : Int))) = true := shp_list fun d hd => by
  obtain ⟨n, _, rfl⟩ := List.mem_map.mp hd
  exact ⟨rfl, Nat.zero_le _⟩
def spOnes (K : PySem.W.Frag) : Sp := fun vs H Q _ => ∃ (q p : Addr) (ls : List (List Nat)) (us : List V) (cs : List Nat) (cnt : Nat), vs = [.ref q, .ref p] ∧ SqL K H q us ∧ RowA H ls us ∧ Lts cnt ls ∧ SqL K H p (nI cs) ∧ ∀ H1 r, Xt H H1 → H r = none → H1 r = some (.lst (nI (ones cs ls))) → Q (.ref r) H1
def spGrow : Sp := fun vs H Q _ => ∃ cnt k : Nat, vs = [.int (cnt : Int), .int (k : Int)] ∧ cnt ≤ 6 ∧ k ≤ 4 ∧ ∀ H1 r xs, Xt H H1 → H1 r = some (.lst xs) → All2 (ColV H1) (gl k cnt) xs → Q (.ref r) H1
def DueV (H : Hp) (v : V) : Option (List Nat) → Prop
  | none => v = .non
  | some cs => ColV H cs v
theorem DueV.xt {H H' : Hp} {v : V} {o : Option (List Nat)} (h : DueV H v o) (x : Xt H H') : DueV H' v o := by
  cases o with
  | none => exact h
  | some cs => exact ColV.xt x h
def due (ls : List (List Nat)) (cnt k : Nat) : Option (List Nat) := (gl k cnt).find? fun cs => decide (ones cs ls = [])
def spColouring (K : PySem.W.Frag) : Sp := fun vs H Q _ => ∃ (q : Addr) (ls : List (List Nat)) (us : List V) (cnt k : Nat), vs = [.int (cnt : Int), .ref q, .int (k : Int)] ∧ SqL K H q us ∧ RowA H ls us ∧ Lts cnt ls ∧ cnt ≤ 6 ∧ k ≤ 4 ∧ ∀ H1 v, Xt H H1 → DueV H1 v (due ls cnt k) → Q v H1
def ext (k : Nat) (one : List Nat) : List (List Nat) := (List.range (giv one k)).map fun c => one ++ [c]
theorem ext_len {k : Nat} (hk : k ≤ 4) : ∀ l : List (List Nat), (l.flatMap (ext k)).length ≤ 4 * l.length := by
  intro l
  induction l with
  | nil => exact Nat.le_refl _
  | cons x l ih =>
    rw [List.flatMap_cons, List.length_append, List.length_cons]
    have h1 : (ext k x).length = giv x k := by
      unfold ext
      rw [List.length_map, List.length_range]
    have : giv x k ≤ 4 := Nat.le_trans (Nat.min_le_right ..) hk
    omega
theorem three {i : Nat} (h : i < 6) : 4 ^ i ≤ 1024 := Nat.pow_le_pow_right (n := 4) (by decide) (show i ≤ 5 by omega)
theorem tst_true {cs : List Nat} {y : Nat} {tl : List Nat} (h : ∀ x ∈ y :: tl, x < cs.length) : mono cs (y :: tl) = (y :: tl).all fun x => decide (cs.getD x 0 = cs.getD y 0) := by
  unfold mono
  rw [Bool.eq_iff_iff, List.all_eq_true, List.all_eq_true]
  constructor
  · intro z x hx
    have := z x hx
    rw [Bool.and_eq_true] at this
    exact this.2
  · intro z x hx
    rw [Bool.and_eq_true]
    exact ⟨decide_eq_true (h x hx), z x hx⟩

theorem gl_len4 {k : Nat} (hk : k ≤ 4) : ∀ t, (gl k t).length ≤ 4 ^ t
  | 0 => Nat.le_refl _
  | t + 1 => by
    have h1 := ext_len hk (gl k t)
    have h2 := gl_len4 hk t
    show ((gl k t).flatMap (ext k)).length ≤ 4 ^ t * 4
    omega
theorem RowA.xd {H H' : Hp} {d : Addr} {rs : List (List Nat)} {vs : List V} (hd : Dr H d) (x : Xd d H H') (h : RowA H rs vs) : RowA H' rs vs := h.tk (.of_xd hd x)
def spLots : Sp := fun vs H Q _ => ∃ (d : Addr) (cnt : Nat), vs = [.ref d, .int (cnt : Int)] ∧ Dr H d ∧ cnt ≤ 6 ∧ ∀ H1 r us ls, Xd d H H1 → H r = none → H1 r = some (.lst us) → RowA H1 ls us → Lts cnt ls → Q (.ref r) H1
theorem sizes : ∀ j : Nat, j < 10 → ∃ sz : Nat, ([.int 1, .int 2, .int 2, .int 2, .int 2, .int 3, .int 3, .int 4, .int 2, .int 2] : List V)[j]? = some (.int (sz : Int)) ∧ 1 ≤ sz ∧ sz ≤ 4
  | 0, _ => ⟨1, rfl, by decide, by decide⟩
  | 1, _ => ⟨2, rfl, by decide, by decide⟩
  | 2, _ => ⟨2, rfl, by decide, by decide⟩
  | 3, _ => ⟨2, rfl, by decide, by decide⟩
  | 4, _ => ⟨2, rfl, by decide, by decide⟩
  | 5, _ => ⟨3, rfl, by decide, by decide⟩
  | 6, _ => ⟨3, rfl, by decide, by decide⟩
  | 7, _ => ⟨4, rfl, by decide, by decide⟩
  | 8, _ => ⟨2, rfl, by decide, by decide⟩
  | 9, _ => ⟨2, rfl, by decide, by decide⟩
  | n + 10, h => absurd h (by omega)
section
variable {P : Program} {w : World} {K : PySem.W.Frag} {mg : Str → Option Value} {base : Heap} {a : Ads}
theorem ok__law_of_one (T : Txt K mg a) (B : TabT base mg a) : FnOk P w K mg base CX0 2 a.f__law_of_one a.fd__law_of_one ["lots", "colours"] (spOnes K) := by
  refine T.F__law_of_one.ok sc__law_of_one (fun vs H Q E h => ?_) (fun A outer s H vs Q E hr h => ?_)
  · obtain ⟨q, p, ls, us, cs, cnt, rfl, _⟩ := h
    rfl
  · obtain ⟨q, p, ls, us, cs, cnt, rfl, hq, hR, hL, hs, kQ⟩ := h
    refine ⟨_, (pss_cons (ps_set (i := 2) sc__law_of_one.nd rfl (.inl rfl) (pe_lst pa_nil))
 (pss_cons (ps_for PassesOwn.never rfl (pi_range1 rfl T.range (pa_cons (pe_callB (Gx.call_len_seqK (K := K) rfl) rfl T.len (by decide +kernel) (pa_cons (pv 0) pa_nil)) pa_nil)) (pg_name (i := 3) sc__law_of_one.nd rfl (.inr rfl))
  (pss_one (ps_if (pt_cmpR op_lt (pe_callB (Wq.cr_maxT (K := K) rfl rfl (hu_of hr)) rfl T.max (by decide +kernel) (pa_cons (pe_ix (Gx.ix_listK (K := K) rfl) (pv 0) (pv 3) (fun _ _ => rfl)) pa_nil)) (pe_callB (Gx.call_len_seqK (K := K) rfl) rfl T.len (by decide +kernel) (pa_cons (pv 1) pa_nil)) (nomark _))
  (pss_one (ps_if (pt_val (pe_callB (Gx.cr_allK (K := K) rfl rfl) rfl T.all (by decide +kernel) (pa_cons (pe_lc (own := [("thing", 4)]) rfl sc__law_of_one.nd (Gx.pi_tupK (K := K) rfl (pe_ix (Gx.ix_listK (K := K) rfl) (pv 0) (pv 3) (fun _ _ => rfl))) (blkOk_by (own := [("thing", 4)]) (N := ["lots", "colours", "rows", "j", "thing"]) (sc := defScope s__law_of_one) (by decide +kernel)) (fun _ _ _ _ _ => (pg_name (i := 4) sc__law_of_one.nd rfl (.inl rfl))) (fun _ _ _ _ _ => pts_nil) (fun _ _ _ _ _ => (pe_cmpR op_eq (pe_ix (Gx.ix_listK (K := K) rfl) (pv 1) (pv 4) (fun _ _ => rfl)) (pe_ix (Gx.ix_listK (K := K) rfl) (pv 1) (pe_ix (Gx.ix_tupK (K := K) rfl) (pe_ix (Gx.ix_listK (K := K) rfl) (pv 0) (pv 3) (fun _ _ => rfl)) pe_int (fun _ _ => rfl)) (fun _ _ => rfl)) (nomark _)))) pa_nil)))
  (pss_one (ps_expr (Gx.pe_bmK (K := K) rfl PySem.F.plainAttrs_list PySem.F.slot_list_append PySem.F.type_list_append mt_append (pv 2) (pa_cons (pv 3) pa_nil))))
  pss_nil))
  pss_nil)))
 (pss_one (ps_ret (pv 2))))), ?_⟩
    have zl : 200001 ≤ sizeLine := by decide
    have hul : us.length = ls.length := hR.len
    have hl8 := hL.n8
    refine ⟨Nat.zero_le _, fun r hr0 => ?_⟩
    refine ⟨_, rfl, q, _, rfl, .inl (Xt.sqL (Xt.new hr0) hq), (us.length : Int), rfl, by omega, by omega, for_range (n := us.length) (fun i σ H' => Xt H H' ∧ H' r = some (.lst (nI ((List.range i).filter fun j => mono cs (ls.getD j [])))) ∧ ∃ c3 : Option V, σ = [some (.ref q), some (.ref p), some (.ref r), c3, none]) ⟨Xt.new hr0, upd_same .., none, rfl⟩ (fun i σ H' hi hh => ?_) (fun σ H' hh => ?_)⟩
    · obtain ⟨x1, hl, c3, rfl⟩ := hh
      have hq' := x1.sqL hq
      have hs' := x1.sqL hs
      have hR' := hR.xt x1
      have hil : i < ls.length := by omega
      obtain ⟨v, hv, hrv⟩ := hR'.get (List.getElem?_eq_getElem hil)
      obtain ⟨tv, rfl, htv⟩ := id hrv
      have hat : atI us (0 + (i : Int)) = some (.ref tv) := by rw [Int.zero_add]; exact atI_nat hv
      have hLr := hL.ok ls[i] (List.getElem_mem hil)
      have ed : ls.getD i [] = ls[i] := by rw [List.getD_eq_getElem?_getD, List.getElem?_eq_getElem hil]; rfl
      have step : ∀ b : Bool, mono cs ls[i] = b → (List.range (i + 1)).filter (fun j => mono cs (ls.getD j [])) = (List.range i).filter (fun j => mono cs (ls.getD j [])) ++ (if b = true then [i] else []) := fun b hb => by
        rw [List.range_succ, List.filter_append]
        congr 1
        rw [List.filter_cons]
        show (if mono cs (ls.getD i []) = true then i :: [] else []) = _
        rw [ed, hb]
      obtain ⟨y, tl, hrow, hy⟩ := hLr.head
      rw [hrow] at htv step
      have htv2 : H' tv = some (.tup (((y : Int) :: tl.map fun n : Nat => (n : Int)).map V.int)) := by rw [nI_int] at htv; exact htv
      have hfm := foldl_cast tl y
      obtain ⟨m1, m2⟩ := le_foldl tl y
      have m3 := foldl_mem tl y
      refine ⟨_, rfl, _, rfl, q, us, _, _, rfl, rfl, hq', hat, tv, _, _, rfl, .inl (.inl htv2), _, rfl, p, _, rfl, .inl hs', _, _, rfl, rfl, _, rfl, ite2 (fun hb => ?_) (fun hb => ?_)⟩
      · have hlt : ∀ x ∈ y :: tl, x < cs.length := fun x hx => by
          have h := of_decide_eq_true hb
          rw [nI_len, hfm] at h
          have h2 : tl.foldl max y < cs.length := by omega
          rcases List.mem_cons.mp hx with rfl | hx
          · omega
          · have := m2 x hx; omega
        have hyl := hlt y (List.mem_cons_self ..)
        refine ⟨_, rfl, _, rfl, q, us, _, _, rfl, rfl, hq', hat, tv, rfl, ⟨_, .inl (.inl htv)⟩, fun D hD => ?_⟩
        refine lcF (J := Itt K tv) (y :: tl).length (fun i => .bl (decide (cs.getD ((y :: tl).getD i 0) 0 = cs.getD y 0))) hD (by have h1 := hLr.len; have h2 := hL.c6; rw [hrow] at h1; omega) (fun i H2 hi x => ⟨_, _, .inl (.inl (x.tup htv)), by rw [List.getElem?_map, List.getElem?_eq_getElem hi]; rfl⟩) (fun H2 x => ⟨_, .inl (.inl (x.tup htv)), by rw [nI_len]; exact Nat.le_refl _⟩) (fun j v H2 H3 Y N hj x hyl2 k => ?_) (fun H2 x hD' => ?_)
        · obtain ⟨rfl, hv2⟩ := hyl2
          have hv3 := hv2 _ (.inl (.inl (x.tup htv)))
          rw [List.getElem?_map, List.getElem?_eq_getElem hj] at hv3
          have ev : v = .int (((y :: tl)[j] : Nat) : Int) := (Option.some.inj hv3).symm
          subst ev
          have hjl := hlt _ (List.getElem_mem hj)
          have hs2 := x.sqL hs'
          have hq2 := x.sqL hq'
          refine ⟨rfl, _, rfl, _, rfl, p, _, _, _, rfl, rfl, hs2, atI_nI hjl, _, rfl, _, rfl, _, rfl, q, us, _, _, rfl, rfl, hq2, hat, tv, _, _, _, rfl, rfl, .inl (.inl (x.tup htv)), atI_nI (cs := y :: tl) (x := 0) (Nat.succ_pos _), p, _, _, _, rfl, rfl, hs2, atI_nI hyl, rfl, ?_⟩
          rw [dec_nat]
          have e := k _ (Xt.refl _)
          rw [show (y :: tl).getD j 0 = (y :: tl)[j] by rw [List.getD_eq_getElem?_getD, List.getElem?_eq_getElem hj]; rfl] at e
          exact e
        · refine ⟨D, (List.range (y :: tl).length).map fun i => decide (cs.getD ((y :: tl).getD i 0) 0 = cs.getD y 0), rfl, by rw [List.map_map]; exact .inl (.inl hD'), ?_⟩
          have em : ((List.range (y :: tl).length).map fun i => decide (cs.getD ((y :: tl).getD i 0) 0 = cs.getD y 0)).all id = mono cs (y :: tl) := by
            rw [List.all_map, tst_true hlt]
            exact all_range (y :: tl) 0 fun x => decide (cs.getD x 0 = cs.getD y 0)
          rw [em]
          have hl2 := x.lst hl
          refine ⟨_, rfl, ite2 (fun hb2 => ?_) (fun hb2 => ?_)⟩
          · refine ⟨_, rfl, .inl ⟨rfl, _, .inl (.inl hl2)⟩, _, rfl, r, _, _, rfl, rfl, hl2, by rw [nI_len]; have := List.length_filter_le (fun j => mono cs (ls.getD j [])) (List.range i); rw [List.length_range] at this; omega, (x1.trans x).mut hr0, ?_, _, rfl⟩
            rw [upd_same, step true hb2, Int.zero_add]
            show _ = some (HO.lst (nI (_ ++ [i])))
            rw [show nI ((List.range i).filter (fun j => mono cs (ls.getD j [])) ++ [i]) = nI ((List.range i).filter fun j => mono cs (ls.getD j [])) ++ [.int (i : Int)] from List.map_append]
          · refine ⟨x1.trans x, ?_, _, rfl⟩
            rw [step false (eq_false_of_ne_true hb2)]
            show H2 r = some (HO.lst (nI (_ ++ [])))
            rw [List.append_nil]
            exact hl2
      · refine ⟨x1, ?_, _, rfl⟩
        have hf : mono cs (y :: tl) = false := by
          refine eq_false_of_ne_true fun z => hb (decide_eq_true ?_)
          unfold mono at z
          rw [List.all_eq_true] at z
          have h := z _ m3
          rw [Bool.and_eq_true, decide_eq_true_iff] at h
          rw [nI_len, hfm]
          have := h.1
          omega
        rw [step false hf]
        show H' r = some (HO.lst (nI (_ ++ [])))
        rw [List.append_nil]
        exact hl
    · obtain ⟨x1, hl, c3, rfl⟩ := hh
      refine ⟨_, rfl, kQ _ _ x1 hr0 ?_⟩
      rw [hul] at hl
      exact hl


theorem ok__law_growths (T : Txt K mg a) (B : TabT base mg a) : FnOk P w K mg base CX0 1 a.f__law_growths a.fd__law_growths ["count", "k"] (spGrow) := by
  refine T.F__law_growths.ok sc__law_growths (fun vs H Q E h => ?_) (fun A outer s H vs Q E hr h => ?_)
  · obtain ⟨cnt, k, rfl, _⟩ := h
    rfl
  · obtain ⟨cnt, k, rfl, hc, hk, kQ⟩ := h
    refine ⟨_, (pss_cons (ps_set (i := 2) sc__law_growths.nd rfl (.inl rfl) (pe_lst (pa_cons (pe_lst pa_nil) pa_nil)))
 (pss_cons (ps_for PassesOwn.never rfl (pi_range1 rfl T.range (pa_cons (pv 0) pa_nil)) (pg_name (i := 3) sc__law_growths.nd rfl (.inl rfl))
  (pss_cons (ps_set (i := 4) sc__law_growths.nd rfl (.inl rfl) (pe_lst pa_nil))
 (pss_cons (ps_for PassesOwn.never rfl (Gx.pi_listK (K := K) rfl (pv 2)) (pg_name (i := 5) sc__law_growths.nd rfl (.inr rfl))
  (pss_cons (ps_set (i := 6) sc__law_growths.nd rfl (.inl rfl) pe_int)
 (C8.pss_cut (ps_if (pt_cmpR op_gt (pe_callB (Gx.call_len_seqK (K := K) rfl) rfl T.len (by decide +kernel) (pa_cons (pv 5) pa_nil)) pe_int (nomark _))
  (pss_one (ps_set (i := 6) sc__law_growths.nd rfl (.inl rfl) (pe_op op_add (pe_callB (Gx.cr_maxK (K := K) rfl rfl) rfl T.max (by decide +kernel) (pa_cons (pv 5) pa_nil)) pe_int)))
  pss_nil)
 (pss_one (ps_set (i := 4) sc__law_growths.nd rfl (.inl rfl) (pe_op op_cat (pv 4) (pe_lc (own := [("colour", 7)]) rfl sc__law_growths.nd (pi_range1 rfl T.range (pa_cons (pe_callB (call_min2 rfl) rfl T.min (by decide +kernel) (pa_cons (pe_op op_add (pv 6) pe_int) (pa_cons (pv 1) pa_nil))) pa_nil)) (blkOk_by (own := [("colour", 7)]) (N := ["count", "k", "lists", "turn", "longer", "one", "most", "colour"]) (sc := defScope s__law_growths) (by decide +kernel)) (fun _ _ _ _ _ => (pg_name (i := 7) sc__law_growths.nd rfl (.inl rfl))) (fun _ _ _ _ _ => pts_nil) (fun _ _ _ _ _ => (pe_op op_cat (pv 5) (pe_lst (pa_cons (pv 7) pa_nil)))))))))))
 (pss_one (ps_set (i := 2) sc__law_growths.nd rfl (.inl rfl) (pv 4))))))
 (pss_one (ps_ret (pv 2))))), ?_⟩
    have zl : 200001 ≤ sizeLine := by decide
    refine ⟨Nat.zero_le _, fun l0 hl0 => ⟨by show 1 ≤ sizeLine; decide, fun lr hlr => ?_⟩⟩
    have ne0 : l0 ≠ lr := ne_of_none (upd_same ..) hlr
    refine ⟨_, rfl, (cnt : Int), rfl, by omega, by omega, for_range (n := cnt) (fun i σ H' => Xt H H' ∧ ∃ (la : Addr) (xs : List V) (c3 c4 c5 c6 : Option V), σ = [some (.int (cnt : Int)), some (.int (k : Int)), some (.ref la), c3, c4, c5, c6, none] ∧ H' la = some (.lst xs) ∧ All2 (ColV H') (gl k i) xs)
      ⟨(Xt.new hl0).trans (Xt.new hlr), lr, _, none, none, none, none, rfl, upd_same .., .cons ⟨l0, rfl, by rw [upd_ne ne0, upd_same]; rfl⟩ .nil⟩ (fun i σ H' hi hh => ?_) (fun σ H' hh => ?_)⟩
    · obtain ⟨x1, la, xs, c3, c4, c5, c6, rfl, hla, hA⟩ := hh
      have g3 := gl_len4 hk i
      have g4 := three (show i < 6 by omega)
      refine ⟨Nat.zero_le _, fun lg hlg => ?_⟩
      have y1 : Xt H' (upd H' lg (.lst [])) := Xt.new hlg
      refine ⟨_, rfl, la, rfl, ⟨_, .inl (.inl (y1.lst hla))⟩, for_list (xs := xs) (fun j σ Hw => Xt H' Hw ∧ ∃ (lg : Addr) (us : List V) (c5 c6 : Option V), σ = [some (.int (cnt : Int)), some (.int (k : Int)), some (.ref la), some (.int (0 + (i : Int))), some (.ref lg), c5, c6, none] ∧ Hw lg = some (.lst us) ∧ All2 (ColV Hw) (((gl k i).take j).flatMap (ext k)) us)
        ⟨y1, lg, [], c5, c6, rfl, upd_same .., .nil⟩ (fun j σ Hw _ hh => .inl (.inl (hh.1.lst hla))) (fun j v σ Hw hv hh => ?_) (fun σ Hw hh => ?_)⟩
      · obtain ⟨x2, lg, us, c5, c6, rfl, hlg2, hB⟩ := hh
        obtain ⟨cs, hcs, pc, rfl, hp0⟩ := hA.at hv
        have hp := x2.lst hp0
        have hjl := (List.getElem?_eq_some_iff.mp hcs).1
        refine ⟨fun σ2 H2 => H2 = Hw ∧ σ2 = [some (.int (cnt : Int)), some (.int (k : Int)), some (.ref la), some (.int (0 + (i : Int))), some (.ref lg), some (.ref pc), some (.int (usedN cs : Nat)), none], ?_, fun σ2 H2 hh => ?_⟩
        · refine ⟨_, rfl, pc, _, rfl, .inl (.inl (.inl hp)), _, _, rfl, rfl, _, rfl, ite2 (fun hb => ?_) (fun hb => ?_)⟩
          · have hl : 0 < cs.length := by
              have h := of_decide_eq_true hb
              rw [nI_len] at h
              omega
            refine ⟨_, rfl, pc, cs.map fun n : Nat => (n : Int), rfl, by rw [nI_int] at hp; exact .inl (.inl hp), by rw [List.length_map]; exact hl, fun m hm hle => ⟨_, _, rfl, rfl, rfl, ?_⟩⟩
            show [some (.int (cnt : Int)), some (.int (k : Int)), some (.ref la), some (.int (0 + (i : Int))), some (.ref lg), some (.ref pc), some (V.int (m + 1)), none] = _
            rw [used_max hm hle]
          · have hl : cs = [] := by
              cases cs with
              | nil => rfl
              | cons c cs => exact absurd (decide_eq_true (by rw [nI_len, List.length_cons]; omega)) hb
            subst hl
            exact ⟨rfl, rfl⟩
        · obtain ⟨rfl, rfl⟩ := hh
          have e2 : (if (k : Int) < (usedN cs : Int) + 1 then (k : Int) else (usedN cs : Int) + 1) = ((giv cs k : Nat) : Int) := by
            unfold giv
            split <;> omega
          have gv3 : giv cs k ≤ 4 := Nat.le_trans (Nat.min_le_right ..) hk
          refine ⟨_, rfl, _, rfl, _, _, rfl, rfl, _, rfl, _, _, rfl, ((giv cs k : Nat) : Int), congrArg (fun z => [V.int z]) e2, by omega, by omega, fun D hD => ?_⟩
          refine lcX (giv cs k) (fun i a => a = cs ++ [i]) (fun a H y => ∃ p, y = .ref p ∧ p ≠ D ∧ H p = some (.lst (nI a))) hD (by omega) (fun _ _ _ _ x ⟨p, e, ne, h⟩ => ⟨p, e, ne, x.lst h⟩) (fun _ _ _ _ _ _ ⟨p, e, ne, h⟩ => ⟨p, e, ne, by rw [upd_ne ne]; exact h⟩) (fun _ _ hi _ => hi) (fun _ _ => Nat.le_refl _) (fun t v H3 H4 Y N ht x hD3 hy kY => ?_) (fun H3 ys l x hD3 hl hR hC => ?_)
          · obtain ⟨rfl, rfl⟩ := hy
            obtain ⟨acc, hD3⟩ := hD3
            refine ⟨rfl, _, rfl, _, rfl, by show 1 ≤ sizeLine; decide, fun l hl => ⟨pc, l, _, _, rfl, rfl, (x.trans (Xt.new hl)).lst hp, upd_same .., ?_, fun r hr => kY _ _ (cs ++ [t]) ((Xt.new hl).trans (Xt.new hr)) rfl ⟨r, rfl, fun z => ?_, ?_⟩⟩⟩
            · rw [nI_len]
              have : cs.length = i := (gl_mem (List.mem_of_getElem? hcs)).1
              show cs.length + 1 ≤ sizeLine
              omega
            · rw [z, (Xt.new (o := .lst [.int (0 + (t : Int))]) hl).lst hD3] at hr
              cases hr
            · rw [upd_same, Int.zero_add]
              show _ = some (HO.lst (nI (cs ++ [t])))
              rw [show nI (cs ++ [t]) = nI cs ++ [.int (t : Int)] from List.map_append]
          · have el : l = ext k cs := by
              refine List.ext_getElem? fun t => ?_
              unfold ext
              by_cases ht : t < giv cs k
              · rw [List.getElem?_map, List.getElem?_range ht, List.getElem?_eq_getElem (by omega)]
                exact congrArg some (hR t _ (List.getElem?_eq_getElem (by omega)))
              · rw [List.getElem?_eq_none (by omega), List.getElem?_eq_none (by rw [List.length_map, List.length_range]; omega)]
            have hlg3 := x.lst hlg2
            have hB3 := hB.imp fun _ _ h => ColV.xt x h
            have hC3 : All2 (ColV H3) (ext k cs) ys := el ▸ hC.imp fun a y ⟨p, e, _, h⟩ => ⟨p, e, h⟩
            have ul : us.length ≤ 4 * (gl k i).length := by
              rw [hB.len]
              have h1 := ext_len hk ((gl k i).take j)
              rw [List.length_take] at h1
              omega
            refine ⟨lg, D, us, ys, rfl, rfl, hlg3, hD3, by rw [hC.len, hl]; omega, fun r hr => ?_⟩
            refine ⟨(x2.trans x).trans (Xt.new hr), r, _, _, _, rfl, upd_same .., ?_⟩
            rw [List.take_add_one, hcs, List.flatMap_append]
            show All2 _ (_ ++ [cs].flatMap (ext k)) _
            rw [List.flatMap_cons, List.flatMap_nil, List.append_nil]
            exact (hB3.app hC3).imp fun _ _ h => ColV.xt (Xt.new hr) h
      · obtain ⟨x2, lg, us, c5, c6, rfl, hlg2, hB⟩ := hh
        refine ⟨_, rfl, x1.trans x2, lg, us, _, _, _, _, rfl, hlg2, ?_⟩
        rw [hA.len, List.take_length] at hB
        exact hB
    · obtain ⟨x1, la, xs, c3, c4, c5, c6, rfl, hla, hA⟩ := hh
      exact ⟨_, rfl, kQ _ _ _ x1 hla hA⟩


theorem ok__law_colouring (T : Txt K mg a) (B : TabT base mg a) (G__law_growths : FnOk P w K mg base CX0 1 a.f__law_growths a.fd__law_growths ["count", "k"] (spGrow)) (G__law_of_one : FnOk P w K mg base CX0 2 a.f__law_of_one a.fd__law_of_one ["lots", "colours"] (spOnes K)) : FnOk P w K mg base CX0 3 a.f__law_colouring a.fd__law_colouring ["count", "lots", "k"] (spColouring K) := by
  refine T.F__law_colouring.ok sc__law_colouring (fun vs H Q E h => ?_) (fun A outer s H vs Q E hr h => ?_)
  · obtain ⟨q, ls, us, cnt, k, rfl, _⟩ := h
    rfl
  · obtain ⟨q, ls, us, cnt, k, rfl, hq, hR, hL, hc, hk, k1⟩ := h
    refine ⟨_, (pss_cons (ps_for PassesOwn.never rfl (Gx.pi_listK (K := K) rfl (pe_call G__law_growths (hr.mono (by decide)) rfl T.g__law_growths T.F__law_growths.kp T.b__law_growths .nil pass0 (pa_cons (pv 0) (pa_cons (pv 2) pa_nil)))) (pg_name (i := 3) sc__law_colouring.nd rfl (.inl rfl))
  (pss_one (ps_if (pt_cmpR (Gx.op_eqDK (K := K) rfl hr.units) (pe_call G__law_of_one (hr.mono (by decide)) rfl T.g__law_of_one T.F__law_of_one.kp T.b__law_of_one .nil pass0 (pa_cons (pv 1) (pa_cons (pv 3) pa_nil))) (pe_lst pa_nil) (nomark _))
  (pss_one (ps_ret (pv 3)))
  pss_nil)))
 (pss_one (ps_ret pe_non))), ?_⟩
    refine ⟨_, rfl, _, rfl, cnt, k, rfl, hc, hk, fun H1 r xs x1 hl hA => ⟨r, rfl, ⟨_, .inl (.inl hl)⟩, for_list (xs := xs) (fun i σ H' => Xt H1 H' ∧ due ls cnt k = ((gl k cnt).drop i).find? (fun cs => decide (ones cs ls = [])) ∧ ∃ c3 : Option V, σ = [some (.int (cnt : Int)), some (.ref q), some (.int (k : Int)), c3]) ⟨Xt.refl _, rfl, none, rfl⟩ (fun i σ H' _ hh => .inl (.inl (hh.1.lst hl))) (fun i v σ H' hv hh => ?_) (fun σ H' hh => ?_)⟩⟩
    · obtain ⟨x2, hno, c3, rfl⟩ := hh
      obtain ⟨cs, hcs, pc, rfl, hp0⟩ := hA.at hv
      have hp := x2.lst hp0
      have x12 := x1.trans x2
      have hil := (List.getElem?_eq_some_iff.mp hcs).1
      rw [List.drop_eq_getElem_cons hil, (List.getElem?_eq_some_iff.mp hcs).2, List.find?_cons] at hno
      refine ⟨_, rfl, _, rfl, q, pc, ls, us, cs, cnt, rfl, x12.sqL hq, hR.xt x12, hL, .inl (.inl hp), fun H3 r3 x3 r30 hr3 => ⟨Nat.zero_le _, fun e he => ?_⟩⟩
      refine ⟨_, _, .lst (.inl (.inl ((Xt.new he).lst hr3))) (dp_nats _), .lst (.inl (.inl (upd_same ..))) .nil, shp_ints _, shp_ints [], _, rfl, ?_⟩
      have x4 := (x12.trans x3).trans (Xt.new (o := .lst []) he)
      cases hz : ones cs ls with
      | nil =>
        rw [hz, decide_eq_true rfl] at hno
        refine ⟨_, rfl, k1 _ _ x4 ?_⟩
        rw [hno]
        exact ⟨pc, rfl, (x3.trans (Xt.new (o := .lst []) he)).lst hp⟩
      | cons z zs =>
        rw [hz, decide_eq_false (by simp)] at hno
        exact ⟨(x2.trans x3).trans (Xt.new he), hno, _, rfl⟩
    · obtain ⟨x2, hno, c3, rfl⟩ := hh
      refine k1 _ _ (x1.trans x2) ?_
      rw [hno, hA.len, List.drop_length]
      rfl


theorem ok__law_lots (T : Txt K mg a) (B : TabT base mg a) (G__law_take : FnOk P w K mg base CX0 1 a.f__law_take a.fd__law_take ["draws", "bound"] (spTake)) : FnOk P w K mg base CX0 2 a.f__law_lots a.fd__law_lots ["draws", "count"] (spLots) := by
  refine T.F__law_lots.ok sc__law_lots (fun vs H Q E h => ?_) (fun A outer s H vs Q E hr h => ?_)
  · obtain ⟨d, cnt, rfl, _⟩ := h
    rfl
  · obtain ⟨d, cnt, rfl, hd, hc6, kQ⟩ := h
    refine ⟨_, (pss_cons (ps_set (i := 2) sc__law_lots.nd rfl (.inl rfl) (pe_lst pa_nil))
 (C8.pss_cut (ps_if (pt_cmpR op_gt (pv 1) pe_int (nomark _))
  (pss_one (ps_for PassesOwn.never rfl (pi_range1 rfl T.range (pa_cons (pe_call G__law_take (hr.mono (by decide)) rfl T.g__law_take T.F__law_take.kp T.b__law_take .nil pass0 (pa_cons (pv 0) (pa_cons pe_int pa_nil))) pa_nil)) (pg_name (i := 3) sc__law_lots.nd rfl (.inl rfl))
  (pss_cons (ps_set (i := 4) sc__law_lots.nd rfl (.inl rfl) (pe_ix (Gx.ix_listK (K := K) rfl) (pe_lst (pa_cons pe_int (pa_cons pe_int (pa_cons pe_int (pa_cons pe_int (pa_cons pe_int (pa_cons pe_int (pa_cons pe_int (pa_cons pe_int (pa_cons pe_int (pa_cons pe_int pa_nil))))))))))) (pe_call G__law_take (hr.mono (by decide)) rfl T.g__law_take T.F__law_take.kp T.b__law_take .nil pass0 (pa_cons (pv 0) (pa_cons pe_int pa_nil))) (fun _ _ => rfl)))
 (pss_cons (ps_set (i := 5) sc__law_lots.nd rfl (.inr rfl) (pe_lc (own := [("k", 7)]) rfl sc__law_lots.nd (pi_range1 rfl T.range (pa_cons (pv 4) pa_nil)) (blkOk_by (own := [("k", 7)]) (N := ["draws", "count", "lots", "turn", "size", "chosen", "lot", "k", "thing"]) (sc := defScope s__law_lots) (by decide +kernel)) (fun _ _ _ _ _ => (pg_name (i := 7) sc__law_lots.nd rfl (.inl rfl))) (fun _ _ _ _ _ => pts_nil) (fun _ _ _ _ _ => (pe_call G__law_take (hr.mono (by decide)) rfl T.g__law_take T.F__law_take.kp T.b__law_take .nil pass0 (pa_cons (pv 0) (pa_cons (pv 1) pa_nil))))))
 (pss_cons (ps_set (i := 6) sc__law_lots.nd rfl (.inl rfl) (pe_callTy (Gx.call_tuple_ofK (K := K) rfl) rfl T.tuple (by decide +kernel) (pa_cons (pe_lc (own := [("thing", 8)]) rfl sc__law_lots.nd (pi_range1 rfl T.range (pa_cons (pv 1) pa_nil)) (blkOk_by (own := [("thing", 8)]) (N := ["draws", "count", "lots", "turn", "size", "chosen", "lot", "k", "thing"]) (sc := defScope s__law_lots) (by decide +kernel)) (fun _ _ _ _ _ => (pg_name (i := 8) sc__law_lots.nd rfl (.inl rfl))) (fun _ _ _ _ _ => (pts_one (pt_cmpR (Gx.op_in_seqK (K := K) rfl) (pv 8) (pv 5) (by rfl)))) (fun _ _ _ _ _ => (pv 8))) pa_nil)))
 (pss_one (ps_if (PW.pt (pw_or (pt_cmpR op_gt (pe_callB (Gx.call_len_seqK (K := K) rfl) rfl T.len (by decide +kernel) (pa_cons (pv 6) pa_nil)) pe_int (nomark _)) (pw_or1 (pt_cmpR op_eq (pe_call G__law_take (hr.mono (by decide)) rfl T.g__law_take T.F__law_take.kp T.b__law_take .nil pass0 (pa_cons (pv 0) (pa_cons pe_int pa_nil))) pe_int (nomark _)))))
  (pss_one (ps_expr (Gx.pe_bmK (K := K) rfl PySem.F.plainAttrs_list PySem.F.slot_list_append PySem.F.type_list_append mt_append (pv 2) (pa_cons (pv 6) pa_nil))))
  pss_nil)))))))
  pss_nil)
 (pss_one (ps_ret (pv 2))))), ?_⟩
    have zl : 200001 ≤ sizeLine := by decide
    refine ⟨Nat.zero_le _, fun r hr0 => ?_⟩
    have hrd : r ≠ d := (hd.ne_none hr0).symm
    have xr : Xd d H (upd H r (.lst [])) := (Xt.new hr0).xd hd
    refine ⟨fun σ2 H2 => ∃ (us : List V) (ls : List (List Nat)) (c3 c4 c5 c6 : Option V), σ2 = [some (.ref d), some (.int (cnt : Int)), some (.ref r), c3, c4, c5, c6, none, none] ∧ Xd d H H2 ∧ H2 r = some (.lst us) ∧ RowA H2 ls us ∧ Lts cnt ls, ?_, fun σ2 H2 hh => ?_⟩
    rotate_left
    · obtain ⟨us, ls, c3, c4, c5, c6, rfl, x2, h2, hR, hL⟩ := hh
      exact ⟨_, rfl, kQ _ _ us ls x2 hr0 h2 hR hL⟩
    refine ⟨_, rfl, _, _, rfl, rfl, _, rfl, ite2 (fun hb => ?_) (fun hb => ?_)⟩
    rotate_left
    · exact ⟨[], [], none, none, none, none, rfl, xr, upd_same .., .nil, ⟨Nat.zero_le _, (fun z hz => by cases hz), hc6⟩⟩
    have hc0 : 0 < cnt := by
      have h : (0 : Int) < (cnt : Int) := of_decide_eq_true hb
      omega
    refine ⟨_, rfl, d, 9, rfl, by decide, xr.dr, fun H2 ni x2 n0 n1 => ?_⟩
    obtain ⟨m, rfl⟩ : ∃ m : Nat, ni = m := ⟨ni.toNat, by omega⟩
    have xr2 := xr.trans x2
    refine ⟨(m : Int), rfl, by omega, by omega, for_range (n := m) (fun i σ H' => ∃ (us : List V) (ls : List (List Nat)) (c3 c4 c5 c6 : Option V), σ = [some (.ref d), some (.int (cnt : Int)), some (.ref r), c3, c4, c5, c6, none, none] ∧ Xd d H H' ∧ H' r = some (.lst us) ∧ RowA H' ls us ∧ (∀ z ∈ ls, LotOk cnt z) ∧ ls.length ≤ i)
      ⟨[], [], none, none, none, none, rfl, xr2, x2.lst hrd (upd_same ..), .nil, (fun z hz => by cases hz), Nat.le_refl _⟩ (fun i σ H3 hi hh => ?_) (fun σ H3 hh => ?_)⟩
    rotate_left
    · obtain ⟨us, ls, c3, c4, c5, c6, rfl, x3, h3, hR, hok, hl⟩ := hh
      exact ⟨us, ls, _, _, _, _, rfl, x3, h3, hR, ⟨by omega, hok, hc6⟩⟩
    obtain ⟨us, ls, c3, c4, c5, c6, rfl, x3, h3, hR, hok, hll⟩ := hh
    refine ⟨by show 10 ≤ sizeLine; decide, fun sl hsl => ?_⟩
    have y3 : Xt H3 (upd H3 sl (.lst [.int 1, .int 2, .int 2, .int 2, .int 2, .int 3, .int 3, .int 4, .int 2, .int 2])) := Xt.new hsl
    have hsl1 : upd H3 sl (.lst [.int 1, .int 2, .int 2, .int 2, .int 2, .int 3, .int 3, .int 4, .int 2, .int 2]) sl = some (.lst [.int 1, .int 2, .int 2, .int 2, .int 2, .int 3, .int 3, .int 4, .int 2, .int 2]) := upd_same ..
    have hsld : sl ≠ d := (x3.dr.ne_none hsl).symm
    have x3' := x3.xt y3
    refine ⟨_, rfl, d, 10, rfl, by decide, x3'.dr, fun H4 zi x4 z0 z1 => ?_⟩
    obtain ⟨z, rfl⟩ : ∃ z : Nat, zi = z := ⟨zi.toNat, by omega⟩
    obtain ⟨sz, hsz, s1, s4⟩ := sizes z (by omega)
    refine ⟨sl, _, _, _, rfl, rfl, .inl (.inl (x4.lst hsld hsl1)), atI_nat hsz, ?_⟩
    have x34 := x3'.trans x4
    have h4 := x4.lst hrd (y3.lst h3)
    have hR4 : RowA H4 ls us := RowA.xd x3.dr ((y3.xd x3.dr).trans x4) hR
    refine ⟨_, rfl, (sz : Int), rfl, by omega, by omega, fun D hD => ?_⟩
    refine lcDr (α := Nat) (J := Itr 0 sz) (d := d) sz (fun _ a => a < cnt) (fun a _ y => y = .int (a : Int)) x34.dr hD (by omega) (fun _ _ _ _ _ _ h => h) (fun _ _ _ _ _ _ h => h) (fun _ _ hi _ => hi) (fun _ _ => Nat.le_refl _) (fun j v H5 H6 Y N hj x hD5 hy kY => ?_) (fun H5 ys l x hD5 hl hRl hC => ?_)
    · obtain ⟨rfl, rfl⟩ := hy
      refine ⟨rfl, _, rfl, _, rfl, d, (cnt : Int), rfl, by omega, x.dr, fun H7 ai x7 a0 a1 => ?_⟩
      obtain ⟨b, rfl⟩ : ∃ b : Nat, ai = b := ⟨ai.toNat, by omega⟩
      exact kY H7 _ b x7 (by omega) rfl
    have eys : ys = nI l := by
      clear hD5 hl hRl
      induction hC with
      | nil => rfl
      | cons h _ ih => rw [ih, h]; rfl
    subst eys
    have hDd : D ≠ d := (x34.dr.ne_none hD).symm
    have h5 := x.lst hrd h4
    have hR5 : RowA H5 ls us := RowA.xd x34.dr x hR4
    have x5 := x34.trans x
    refine ⟨_, rfl, (cnt : Int), rfl, by omega, by omega, fun G hG => ?_⟩
    refine lcf_rng (m := cnt) (fun j => decide (j ∈ l)) (fun j => .int (j : Int)) hG (by omega) (fun j hj H6 Y N x6 kY kN => ?_) (fun H6 x6 hG6 => ?_)
    · refine ⟨rfl, _, rfl, _, rfl, D, _, rfl, .inl (.inl (.inl (x6.lst hD5))), rfl, flat_nI _, _, rfl, ?_⟩
      have e1 : (if false = true then !inV (.int (j : Int)) (nI l) else inV (.int (j : Int)) (nI l)) = decide (j ∈ l) := in_nI j l
      rw [e1]
      exact ite2 (fun h => ⟨_, rfl, kY _ (Xt.refl _) h⟩) (fun h => kN _ (Xt.refl _) (eq_false_of_ne_true h))
    have hlot : LotOk cnt ((List.range cnt).filter fun j => decide (j ∈ l)) := by
      refine ⟨fun z => ?_, List.pairwise_lt_range.filter _, fun x hx => List.mem_range.mp (List.mem_filter.mp hx).1⟩
      cases l with
      | nil => simp at hl; omega
      | cons b l =>
        have hb2 := hRl 0 b rfl
        have : b ∈ (List.range cnt).filter fun j => decide (j ∈ b :: l) := List.mem_filter.mpr ⟨List.mem_range.mpr hb2, decide_eq_true (List.mem_cons_self ..)⟩
        rw [z] at this
        cases this
    refine ⟨G, _, rfl, .inl ⟨.inl (.inl hG6), fun tt htt => ?_⟩⟩
    generalize (List.range cnt).filter (fun j => decide (j ∈ l)) = lot at hlot hG6 htt
    have x7 := x6.trans (Xt.new (o := .tup (nI lot)) htt)
    have ht7 : upd H6 tt (.tup (nI lot)) tt = some (.tup (nI lot)) := upd_same ..
    generalize upd H6 tt (.tup (nI lot)) = H7 at x7 ht7
    have x57 := x5.xt x7
    have h7 := x7.lst h5
    have hR7 := hR5.xt x7
    refine ⟨_, rfl, tt, _, rfl, .inr (.inl (.inl ht7)), _, _, rfl, rfl, _, rfl, ite2 (fun hb2 => ?_) (fun hb2 => ?_)⟩
    · skip
      refine ⟨_, rfl, .inl ⟨rfl, _, .inl (.inl h7)⟩, _, rfl, r, us, _, rfl, rfl, h7, by rw [hR.len]; omega, us ++ [.ref tt], ls ++ [lot], _, _, _, _, rfl, x57.mut hrd.symm hr0, upd_same .., ?_, fun z hz => ?_, by rw [List.length_append]; show ls.length + 1 ≤ i + 1; omega⟩
      · exact (hR7.tk (.lst h7)).app (.cons (RowV.tk (.lst h7) ⟨tt, rfl, ht7⟩) .nil)
      · rcases List.mem_append.mp hz with hz | hz
        · exact hok z hz
        · rw [List.mem_singleton.mp hz]
          exact hlot
    · refine ⟨_, rfl, d, 4, rfl, by decide, x57.dr, fun H8 zi2 x8 z2 z3 => ⟨rfl, _, rfl, ite2 (fun hb3 => ?_) (fun hb3 => ?_)⟩⟩
      · have x58 := x57.trans x8
        have h8 := x8.lst hrd h7
        have hR8 := RowA.xd x57.dr x8 hR7
        have ht8 : H8 tt = some (.tup (nI lot)) := by
          obtain ⟨t9, e9, h9⟩ := RowV.tk (.of_xd x57.dr x8) (show RowV H7 lot (.ref tt) from ⟨tt, rfl, ht7⟩)
          cases e9
          exact h9
        refine ⟨_, rfl, .inl ⟨rfl, _, .inl (.inl h8)⟩, _, rfl, r, us, _, rfl, rfl, h8, by rw [hR.len]; omega, us ++ [.ref tt], ls ++ [lot], _, _, _, _, rfl, x58.mut hrd.symm hr0, upd_same .., ?_, fun z hz => ?_, by rw [List.length_append]; show ls.length + 1 ≤ i + 1; omega⟩
        · exact (hR8.tk (.lst h8)).app (.cons (RowV.tk (.lst h8) ⟨tt, rfl, ht8⟩) .nil)
        · rcases List.mem_append.mp hz with hz | hz
          · exact hok z hz
          · rw [List.mem_singleton.mp hz]
            exact hlot
      · exact ⟨us, ls, _, _, _, _, rfl, x57.trans x8, x8.lst hrd h7, RowA.xd x57.dr x8 hR7, hok, by omega⟩


end
end K40
set_option Elab.async false
set_option linter.all false
set_option maxRecDepth 100000
set_option maxHeartbeats 4000000
namespace K40
open PySem PySem.Spec PyProof.Rows L2 Gx Wq Lw Cq Ct

def ResV (H H1 : Hp) (v : V) : Option (List Nat) → Prop
  | none => v = .non
  | some cs => ∃ p, v = .ref p ∧ H p = none ∧ H1 p = some (.lst (nI cs))
def TTf (v1 v2 : V) (tl : Hp → V → VK → Prop) (H : Hp) (Q : VK) : Prop := ∃ (cnt k : Nat) (fine : List Nat → Bool), v1 = .int (cnt : Int) ∧ v2 = .int (k : Int) ∧ cnt ≤ 6 ∧ k ≤ 4 ∧
  (∀ (H' : Hp) (p : Addr) (cs : List Nat) (Q' : VK), Xt H H' → H' p = some (.lst (nI cs)) → cs ≠ [] → (∀ H'', Xt H' H'' → Q' (.bl (fine cs)) H'') → tl H' (.ref p) Q') ∧ ∀ H1 v, Xt H H1 → ResV H H1 v ((gl k cnt).find? (okc fine)) → Q v H1
theorem nI_snoc (cs : List Nat) (f : Nat) : nI cs ++ [.int (f : Int)] = nI (cs ++ [f]) := (show nI (cs ++ [f]) = nI cs ++ [.int (f : Int)] from List.map_append).symm
section
variable {P : Program} {w : World} {K : PySem.W.Frag} {mg : Str → Option Value} {base : Heap} {a : Ads}
theorem ok_first_colouring (T : Txt K mg a) (B : TabT base mg a) (G_choices_for : FnOk P w K mg base CX0 1 a.f_choices_for a.fd_choices_for ["colours", "k"] (spChoices K)) (q : Str) (A : Around) (outer : List Env) (f c' : Addr) (s : Shared) (H : Hp) (Q : VK) (tl : Hp → V → VK → Prop) (v1 v2 : V)
    (hr : Room 3 (A.deeper (envOfC "first_colouring" (defScope s_first_colouring) s.heap.objs.size a.f_first_colouring (.ref a.c_first_colouring)))) (act : ActP (cxOf CX0 P w K mg base ["count", "k", "is_fine", "colours", "following"] "first_colouring" (defScope s_first_colouring) a.f_first_colouring (.ref a.c_first_colouring) A outer s H C8.E0).nox "is_fine" 2 f c' q tl) (hc : H c' = some (LamX.CodeO c' q)) (h : TTf v1 v2 tl H Q) :
    ∃ t, PSs (cxOf CX0 P w K mg base ["count", "k", "is_fine", "colours", "following"] "first_colouring" (defScope s_first_colouring) a.f_first_colouring (.ref a.c_first_colouring) A outer s H C8.E0).nox (defBody s_first_colouring) t ∧ t { nx := fun _ H' => Q .non H', rt := Q } (L2.start ["count", "k", "is_fine", "colours", "following"] [v1, v2, .ref f]) H := by
  unfold ActP at act
  obtain ⟨cnt, k, fine, rfl, rfl, hc6, hk, ht, kQ⟩ := h
  refine ⟨_, (pss_cons (ps_set (i := 3) sc_first_colouring.nd rfl (.inl rfl) (pe_lst pa_nil))
 (pss_cons (ps_set (i := 4) sc_first_colouring.nd rfl (.inl rfl) pe_int)
 (pss_cons (ps_while PassesOwn.never (pt_cmpR op_lt (pe_callB (Gx.call_len_seqK (K := K) rfl) rfl T.len (by decide +kernel) (pa_cons (pv 3) pa_nil)) (pv 0) (nomark _))
  (pss_cons (ps_if (pt_cmpR op_ge (pv 4) (pe_call G_choices_for (hr.mono (by decide)) rfl T.g_choices_for T.F_choices_for.kp T.b_choices_for .nil pass0 (pa_cons (pv 3) (pa_cons (pv 1) pa_nil))) (nomark _))
  (pss_cons (ps_if (pt_not (Gx.pt_truthK (K := K) rfl (pv 3) (by intro _; rfl)))
  (pss_one (ps_ret pe_non))
  pss_nil)
 (pss_cons (ps_set (i := 4) sc_first_colouring.nd rfl (.inl rfl) (pe_op op_add (Gx.pe_bm0K (K := K) rfl PySem.F.plainAttrs_list PySem.F.slot_list_pop PySem.F.type_list_pop mt_pop (pv 3)) pe_int))
 (pss_one ps_continue)))
  pss_nil)
 (pss_cons (ps_expr (Gx.pe_bmK (K := K) rfl PySem.F.plainAttrs_list PySem.F.slot_list_append PySem.F.type_list_append mt_append (pv 3) (pa_cons (pv 4) pa_nil)))
 (pss_cons (ps_set (i := 4) sc_first_colouring.nd rfl (.inl rfl) pe_int)
 (pss_one (ps_if (pt_not (pt_val (act (pv 3) rfl)))
  (pss_one (ps_set (i := 4) sc_first_colouring.nd rfl (.inl rfl) (pe_op op_add (Gx.pe_bm0K (K := K) rfl PySem.F.plainAttrs_list PySem.F.slot_list_pop PySem.F.type_list_pop mt_pop (pv 3)) pe_int)))
  pss_nil))))))
 (pss_one (ps_ret (pv 3)))))), ?_⟩
  have zl : 200001 ≤ sizeLine := by decide
  refine ⟨Nat.zero_le _, fun p hp => ?_⟩
  refine ⟨fun m σ H' => ∃ (rc : List Nat) (f5 : Nat), σ = [some (.int (cnt : Int)), some (.int (k : Int)), some (.ref f), some (.ref p), some (.int (f5 : Int))] ∧ Xt H H' ∧ H' p = some (.lst (nI rc.reverse)) ∧
    ((rc.length = cnt ∧ m = 0 ∧ (gl k cnt).find? (okc fine) = some rc.reverse) ∨ ∃ d, rc.length + d + 1 = cnt ∧ m = cst d rc f5 ∧ rst k fine d rc f5 = (gl k cnt).find? (okc fine)), ?_, fun m σ H' hh => ?_⟩
  · cases cnt with
    | zero => exact ⟨0, [], 0, rfl, Xt.new hp, upd_same .., .inl ⟨rfl, rfl, rfl⟩⟩
    | succ d => exact ⟨_, [], 0, rfl, Xt.new hp, upd_same .., .inr ⟨d, by simp, rfl, rst_start k fine d⟩⟩
  · obtain ⟨rc, f5, rfl, x1, hl, hh⟩ := hh
    have hrl : (nI rc.reverse).length = rc.length := by rw [nI_len, List.length_reverse]
    refine ⟨_, rfl, p, _, rfl, .inl (.inl (.inl hl)), _, rfl, _, _, rfl, rfl, _, rfl, ite2 (fun hb => ?_) (fun hb => ?_)⟩
    · have hlt : rc.length < cnt := by
        have := of_decide_eq_true hb
        rw [hrl] at this
        omega
      obtain ⟨d, hd, hm, hres⟩ : ∃ d, rc.length + d + 1 = cnt ∧ m = cst d rc f5 ∧ rst k fine d rc f5 = (gl k cnt).find? (okc fine) := by
        rcases hh with ⟨z, _⟩ | z
        · omega
        · exact z
      refine ⟨_, fun _ _ h => h, ?_⟩
      have hg4 : giv rc.reverse k ≤ 4 := Nat.le_trans (Nat.min_le_right ..) hk
      refine ⟨_, rfl, _, rfl, _, rfl, p, rc.reverse, k, rfl, .inl (.inl hl), _, _, rfl, rfl, _, rfl, ite2 (fun hb1 => ?_) (fun hb1 => ?_)⟩
      · have hge : giv rc.reverse k ≤ f5 := by
          have := of_decide_eq_true hb1
          omega
        cases rc with
        | nil =>
          refine ⟨_, rfl, false, .inl ⟨_, .inl (.inl hl), rfl⟩, iteT (kQ _ _ x1 ?_)⟩
          rw [← hres]
          show ResV H H' .non (frm k fine d [] f5)
          have hge : giv [] k ≤ f5 := hge
          rw [frm_hi hge]
          rfl
        | cons c rc =>
          have e1 : nI (c :: rc).reverse = nI rc.reverse ++ [.int (c : Int)] := by rw [List.reverse_cons, nI_snoc]
          rw [e1] at hl
          refine ⟨_, rfl, true, .inl ⟨_, .inl (.inl hl), by cases nI rc.reverse <;> rfl⟩, iteF ?_⟩
          refine ⟨_, rfl, .inl ⟨rfl, _, .inl (.inl hl)⟩, p, _, .int (c : Int), rfl, rfl, hl, by simp, _, _, rfl, rfl, ?_⟩
          refine ⟨_, by rw [hm]; exact cst_hi d c rc f5, rc, c + 1, rfl, x1.mut hp, ?_, .inr ⟨d + 1, by rw [← hd, List.length_cons]; omega, rfl, ?_⟩⟩
          · rw [upd_same, List.dropLast_concat]
          · rw [← hres, rst_hi hge]
      · have hlo : f5 < giv rc.reverse k := Nat.lt_of_not_le fun z => hb1 (decide_eq_true (by omega))
        refine ⟨_, rfl, .inl ⟨rfl, _, .inl (.inl hl)⟩, _, rfl, p, _, _, rfl, rfl, hl, by rw [hrl]; omega, ?_⟩
        have x2 : Xt H (upd H' p (.lst (nI rc.reverse ++ [.int (f5 : Int)]))) := x1.mut hp
        have hl2 : upd H' p (.lst (nI rc.reverse ++ [.int (f5 : Int)])) p = some (.lst (nI (rc.reverse ++ [f5]))) := by rw [upd_same, nI_snoc]
        generalize upd H' p (.lst (nI rc.reverse ++ [.int (f5 : Int)])) = H2 at x2 hl2
        refine ⟨rfl, _, rfl, x2.keep _ _ hc codeO_tbl, ht _ p _ _ x2 hl2 (by simp) fun H3 x3 => ⟨_, rfl, ?_⟩⟩
        cases hf : fine (rc.reverse ++ [f5]) with
        | true =>
          refine iteF ?_
          have hl3 : H3 p = some (.lst (nI (f5 :: rc).reverse)) := by rw [List.reverse_cons]; exact x3.lst hl2
          cases d with
          | zero => exact ⟨0, by rw [hm]; exact cst_pos _ _ _, f5 :: rc, 0, rfl, x2.trans x3, hl3, .inl ⟨by rw [← hd, List.length_cons], rfl, by rw [← hres, rst_ok0 hlo hf, List.reverse_cons]⟩⟩
          | succ d => exact ⟨cst d (f5 :: rc) 0, by rw [hm]; exact cst_okS (by omega), f5 :: rc, 0, rfl, x2.trans x3, hl3, .inr ⟨d, by rw [← hd, List.length_cons]; omega, rfl, by rw [← hres, rst_okS hlo hf]⟩⟩
        | false =>
          refine iteT ?_
          have hl3 := x3.lst hl2
          rw [← nI_snoc] at hl3
          refine ⟨_, rfl, .inl ⟨rfl, _, .inl (.inl hl3)⟩, p, _, .int (f5 : Int), rfl, rfl, hl3, by simp, _, _, rfl, rfl, ?_⟩
          refine ⟨_, by rw [hm]; exact cst_bad (d := d) (rc := rc) (f := f5) (by omega), rc, f5 + 1, rfl, (x2.trans x3).mut hp, ?_, .inr ⟨d, hd, rfl, ?_⟩⟩
          · rw [upd_same, List.dropLast_concat]
          · rw [← hres, rst_bad hlo hf]
    · have hge : cnt ≤ rc.length := Nat.le_of_not_lt fun z => hb (decide_eq_true (by rw [hrl]; omega))
      obtain ⟨h1, h2, h3⟩ : rc.length = cnt ∧ m = 0 ∧ (gl k cnt).find? (okc fine) = some rc.reverse := by
        rcases hh with z | ⟨d, z, _⟩
        · exact z
        · omega
      refine ⟨_, rfl, kQ _ _ x1 ?_⟩
      rw [h3]
      exact ⟨p, rfl, hp, hl⟩

end
end K40
set_option Elab.async false
set_option linter.all false
set_option maxRecDepth 100000
set_option maxHeartbeats 4000000
namespace K40
open PySem PySem.Spec PyProof.Rows L2 Gx Wq Lw Cq Ct

theorem Xn.sqL {K : PySem.W.Frag} {P : Addr} {H H' : Hp} (x : Xn P H H') (hP : ∃ ps, H P = some (TabO P ps)) {b : Addr} {xs : List V} (h : SqL K H b xs) : SqL K H' b xs := by
  rcases h with (h | ⟨ob, h⟩) | h
  · exact .inl (.inl (x.at hP h (fun _ => nofun) fun _ => nofun))
  · exact .inl (.inr ⟨ob, x.at hP h (fun _ => nofun) fun _ => nofun⟩)
  · exact .inr h
theorem RowA.xn {P : Addr} {H H' : Hp} (x : Xn P H H') (hP : ∃ ps, H P = some (TabO P ps)) : ∀ {rs : List (List Nat)} {vs : List V}, RowA H rs vs → RowA H' rs vs
  | _, _, .nil => .nil
  | _, _, .cons ⟨t, e, h1⟩ h2 => .cons ⟨t, e, x.tup hP h1⟩ (RowA.xn x hP h2)
theorem NumT.xn {S : Addr → Prop} {P : Addr} {H H' : Hp} (x : Xn P H H') (hP : ∃ ps, H P = some (TabO P ps)) {q : Addr} {ls : List (List Nat)} {n : Nat} (h : NumT S H q ls n) : NumT S H' q ls n := by
  obtain ⟨kvs, h1, h2, h3, h4⟩ := h.ex
  refine ⟨kvs, x.at hP h1 (fun _ => nofun) (fun _ => nofun), h2, fun l => ?_, h4⟩
  rcases h3 l with z | ⟨p, a, b, c⟩
  · exact .inl z
  · exact .inr ⟨p, a, b, x.lst hP c⟩
theorem tabL_has {H : Hp} {P : Addr} {q : Str} (t : TabL H P q) : ∃ ps, H P = some (TabO P ps) := by
  obtain ⟨ps, h, _⟩ := t
  exact ⟨ps, h⟩
theorem Xn.tabG {P R : Addr} {H H' : Hp} (x : Xn P H H') (hP : ∃ ps, H P = some (TabO P ps)) (h : GxR.TabG H R) : GxR.TabG H' R := by
  obtain ⟨qs, e, t⟩ := h
  obtain ⟨ps, hp⟩ := hP
  have ne : R ≠ P := fun z => by
    rw [z, hp] at e
    unfold TabO at e
    cases e
  obtain ⟨qs', e', t'⟩ := x.tab R qs ne e
  exact ⟨qs', e', t' t⟩
theorem Xn.free {P : Addr} {H H' : Hp} (x : Xn P H H') (hP : ∃ ps, H' P = some (TabO P ps)) {b : Addr} (h : H' b = none) : H b = none := by
  obtain ⟨ps, hp⟩ := hP
  have ne : b ≠ P := fun z => by
    rw [z, hp] at h
    cases h
  cases hb : H b with
  | none => rfl
  | some o =>
    by_cases ht : ∃ qs, o = .tbl qs
    · obtain ⟨qs, rfl⟩ := ht
      obtain ⟨qs', e, _⟩ := x.tab b qs ne hb
      rw [e] at h
      cases h
    · rw [x.keep b o ne hb fun qs z => ht ⟨qs, z⟩] at h
      cases h
theorem Xn.mut {P : Addr} {H H' : Hp} (x : Xn P H H') {p : Addr} {o : HO} (hp : H p = none) : Xn P H (upd H' p o) := by
  refine ⟨fun b o' hb h n => ?_, fun Q ps hQ h => ?_⟩
  · rw [upd_ne (fun z => by rw [z, hp] at h; cases h)]
    exact x.keep b o' hb h n
  · rw [upd_ne (fun z => by rw [z, hp] at h; cases h)]
    exact x.tab Q ps hQ h
theorem tabL_upd {H : Hp} {P p : Addr} {q : Str} {xs : List V} {o : HO} (t : TabL H P q) (hp : H p = some (.lst xs)) : TabL (upd H p o) P q := by
  obtain ⟨ps, t1, t2, t3⟩ := t
  refine ⟨ps, ?_, t2, fun pos cv e => ?_⟩
  · rw [upd_ne (fun z => by rw [z, hp] at t1; unfold TabO at t1; cases t1)]
    exact t1
  · obtain ⟨c, e1, e2⟩ := t3 pos cv e
    refine ⟨c, e1, ?_⟩
    rw [upd_ne (fun z => by rw [z, hp] at e2; unfold LamX.CodeO at e2; cases e2)]
    exact e2
abbrev lamQ (a : Ads) : Str := (envOfC "least_colouring" (defScope s_least_colouring) 0 a.f_least_colouring (.ref a.c_least_colouring)).qual ++ "<lambda>"
def spLeast (K : PySem.W.Frag) (a : Ads) : Sp := fun vs H Q _ => ∃ (q : Addr) (ls : List (List Nat)) (us : List V) (cnt k : Nat), vs = [.int (cnt : Int), .ref q, .int (k : Int)] ∧ SqL K H q us ∧ RowA H ls us ∧ Lts cnt ls ∧ cnt ≤ 6 ∧ k ≤ 4 ∧ TabL H a.P_least_colouring (lamQ a) ∧ GxR.TabG H a.P_first_of_one_colour ∧
  ∀ H1 v, Xn a.P_least_colouring H H1 → TabL H1 a.P_least_colouring (lamQ a) → ResV H H1 v (due ls cnt k) → Q v H1
theorem same_rows {H : Hp} {a b : Addr} {qs : List (List Nat)} {ys : List V} (h1 : RowA H qs ys) (ha : H a = some (.lst ys)) (hb : H b = some (.lst ys)) (hl : qs.length ≤ 1000000) (hr : ∀ r ∈ qs, r.length ≤ 1000000) : SameD H 2 (.ref a) (.ref b) := by
  refine .inr ⟨a, b, ys, ys, rfl, rfl, .inr ⟨ha, hb⟩, rfl, by rw [h1.len]; exact hl, fun i x y hx hy => ?_⟩
  obtain ⟨r, e1, t, rfl, ht⟩ := h1.at hx
  rw [hx] at hy
  cases hy
  refine .inr ⟨t, t, _, _, rfl, rfl, .inl ⟨ht, ht⟩, rfl, by rw [nI_len]; exact hr r (List.mem_of_getElem? e1), fun j u v hu hv => ?_⟩
  obtain ⟨n, hn, rfl⟩ := nI_at hu
  rw [hu] at hv
  cases hv
  exact SameD.leaf rfl 0
theorem same_due {H0 H : Hp} {v w : V} {o : Option (List Nat)} (h1 : ResV H0 H v o) (h2 : DueV H w o) (hl : ∀ cs, o = some cs → cs.length ≤ 6) : SameD H 2 v w := by
  cases o with
  | none =>
    have h1 : v = .non := h1
    have h2 : w = .non := h2
    rw [h1, h2]
    exact SameD.leaf rfl 2
  | some cs =>
    obtain ⟨p, rfl, _, hp⟩ := h1
    obtain ⟨p2, rfl, hp2⟩ := h2
    have hl := hl cs rfl
    refine .inr ⟨p, p2, _, _, rfl, rfl, .inr ⟨hp, hp2⟩, rfl, by rw [nI_len]; omega, fun i x y hx hy => ?_⟩
    rw [hx] at hy
    cases hy
    obtain ⟨n, hn, rfl⟩ := nI_at hx
    exact SameD.leaf rfl 1
theorem due_len {ls : List (List Nat)} {cnt k : Nat} {cs : List Nat} (h : due ls cnt k = some cs) : cs.length = cnt := (gl_mem (List.mem_of_find?_eq_some h)).1
section
variable {P : Program} {w : World} {K : PySem.W.Frag} {mg : Str → Option Value} {base : Heap} {a : Ads}
theorem ok__law_take (T : Txt K mg a) (B : TabT base mg a) : FnOk P w K mg base CX0 1 a.f__law_take a.fd__law_take ["draws", "bound"] (spTake) := by
  refine T.F__law_take.ok sc__law_take (fun vs H Q E h => ?_) (fun A outer s H vs Q E hr h => ?_)
  · obtain ⟨d, b, rfl, _⟩ := h
    rfl
  · obtain ⟨d, b, rfl, hb, hd, q⟩ := h
    refine ⟨_, (pss_cons (ps_if (pt_cmpR op_eq (pe_callB (Gx.call_len_seqK (K := K) rfl) rfl T.len (by decide +kernel) (pa_cons (pv 0) pa_nil)) pe_int (nomark _))
  (pss_one (ps_ret pe_int))
  pss_nil)
 (pss_one (ps_ret (pe_op op_modN (pe_callTy call_int1 rfl T.int (by decide +kernel) (pa_cons (Gx.pe_bm0K (K := K) rfl PySem.F.plainAttrs_list PySem.F.slot_list_pop PySem.F.type_list_pop mt_pop (pv 0)) pa_nil)) (pv 1))))), ?_⟩
    obtain ⟨ns, e⟩ := id hd
    refine ⟨_, rfl, d, _, rfl, .inl (.inl (.inl e)), rfl, _, rfl, ite2 (fun h1 => ?_) (fun h1 => ?_)⟩
    · exact q H 0 (Xd.refl hd) (Int.le_refl _) hb
    · have hne : ns ≠ [] := fun z => h1 (by rw [z]; decide)
      rcases List.eq_nil_or_concat ns with h | ⟨l, n, h⟩
      · exact absurd h hne
      rw [List.concat_eq_append] at h
      subst h
      refine ⟨_, rfl, .inl ⟨rfl, _, .inl (.inl e)⟩, d, _, .int n, rfl, rfl, e, by simp, .inl ⟨n, rfl, _, rfl, n, b, rfl, rfl, by omega, ?_⟩⟩
      show Q (.int (n.fmod b)) _
      rw [Int.fmod_eq_emod_of_nonneg _ (by omega)]
      refine q _ _ ?_ (Int.emod_nonneg _ (by omega)) (Int.emod_lt_of_pos _ hb)
      have e2 : (((l ++ [n]).map V.int).dropLast) = l.map V.int := by simp
      rw [e2]
      exact Xd.draw hd


theorem ok__law_draws (T : Txt K mg a) (B : TabT base mg a) : FnOk P w K mg base CX0 1 a.f__law_draws a.fd__law_draws ["script"] (spDraws K) := by
  refine T.F__law_draws.ok sc__law_draws (fun vs H Q E h => ?_) (fun A outer s H vs Q E hr h => ?_)
  · obtain ⟨q0, ns, rfl, _⟩ := h
    rfl
  · obtain ⟨q0, ns, rfl, hs, hn, k⟩ := h
    refine ⟨_, (pss_cons (ps_set (i := 1) sc__law_draws.nd rfl (.inl rfl) (pe_lst pa_nil))
 (pss_cons (ps_for PassesOwn.never rfl (Gx.pi_listK (K := K) rfl (pv 0)) (pg_name (i := 2) sc__law_draws.nd rfl (.inl rfl))
  (pss_cons (ps_set (i := 3) sc__law_draws.nd rfl (.inl rfl) (pe_callB call_abs rfl T.abs (by decide +kernel) (pa_cons (pv 2) pa_nil)))
 (C8.pss_cut (ps_if (pt_cmpR op_lt (pv 3) (pe_op op_pow pe_int pe_int) (nomark _))
  (pss_cons (ps_set (i := 4) sc__law_draws.nd rfl (.inl rfl) (pe_op op_mod (pe_callTy call_int1 rfl T.int (by decide +kernel) (pa_cons (pe_op op_add (pe_op op_mul (pv 3) pe_int) pe_int) pa_nil)) pe_int))
 (pss_cons (ps_expr (Gx.pe_bmK (K := K) rfl PySem.F.plainAttrs_list PySem.F.slot_list_append PySem.F.type_list_append mt_append (pv 1) (pa_cons (pe_op op_mod (pe_callTy call_int1 rfl T.int (by decide +kernel) (pa_cons (pe_op op_add (pe_op op_mul (pv 4) pe_int) (pv 3)) pa_nil)) pe_int) pa_nil)))
 (pss_cons (ps_expr (Gx.pe_bmK (K := K) rfl PySem.F.plainAttrs_list PySem.F.slot_list_append PySem.F.type_list_append mt_append (pv 1) (pa_cons (pe_op op_mod (pe_callTy call_int1 rfl T.int (by decide +kernel) (pa_cons (pe_op op_add (pv 4) (pe_op op_fdiv (pv 3) pe_int)) pa_nil)) pe_int) pa_nil)))
 (pss_one (ps_set (i := 3) sc__law_draws.nd rfl (.inl rfl) pe_int)))))
  pss_nil)
 (pss_one (ps_for PassesOwn.never rfl (pi_range1 rfl T.range (pa_cons pe_int pa_nil)) (pg_name (i := 5) sc__law_draws.nd rfl (.inl rfl))
  (pss_one (ps_if (pt_cmpR op_gt (pv 3) pe_int (nomark _))
  (pss_cons (ps_expr (Gx.pe_bmK (K := K) rfl PySem.F.plainAttrs_list PySem.F.slot_list_append PySem.F.type_list_append mt_append (pv 1) (pa_cons (pe_op op_mod (pe_callTy call_int1 rfl T.int (by decide +kernel) (pa_cons (pv 3) pa_nil)) pe_int) pa_nil)))
 (pss_one (ps_set (i := 3) sc__law_draws.nd rfl (.inl rfl) (pe_op op_fdiv (pv 3) pe_int))))
  pss_nil)))))))
 (pss_cons (ps_set (i := 6) sc__law_draws.nd rfl (.inl rfl) pe_int)
 (C8.pss_cut (ps_if (pt_cmpR op_gt (pe_callB (Gx.call_len_seqK (K := K) rfl) rfl T.len (by decide +kernel) (pa_cons (pv 0) pa_nil)) pe_int (nomark _))
  (pss_one (ps_set (i := 6) sc__law_draws.nd rfl (.inl rfl) (pe_op op_add pe_int (pe_callB call_abs rfl T.abs (by decide +kernel) (pa_cons (pe_ix (Gx.ix_listK (K := K) rfl) (pv 0) pe_int (fun _ _ => rfl)) pa_nil)))))
  pss_nil)
 (pss_cons (ps_for PassesOwn.never rfl (pi_range1 rfl T.range (pa_cons pe_int pa_nil)) (pg_name (i := 5) sc__law_draws.nd rfl (.inl rfl))
  (pss_cons (ps_set (i := 6) sc__law_draws.nd rfl (.inl rfl) (pe_op op_mod (pe_callTy call_int1 rfl T.int (by decide +kernel) (pa_cons (pe_op op_add (pe_op op_mul (pv 6) pe_int) pe_int) pa_nil)) pe_int))
 (pss_one (ps_expr (Gx.pe_bmK (K := K) rfl PySem.F.plainAttrs_list PySem.F.slot_list_append PySem.F.type_list_append mt_append (pv 1) (pa_cons (pe_op op_fdiv (pv 6) pe_int) pa_nil))))))
 (pss_one (ps_ret (Gx.pe_listRevK (K := K) rfl rfl rfl T.list rfl T.reversed (pv 1))))))))), ?_⟩
    have zl : 200001 ≤ sizeLine := by decide
    have app : ∀ (l : List Int) (n : Int), l.map V.int ++ [V.int n] = (l ++ [n]).map V.int := fun l n => by simp
    refine ⟨Nat.zero_le _, fun r hr0 => ⟨_, rfl, q0, rfl, ⟨_, (Xt.new hr0).sqL hs⟩, for_list (xs := ns.map V.int) (fun i σ H' => ∃ (c n f j e : Option V) (ms : List Int), σ = [some (.ref q0), some (.ref r), c, n, f, j, e] ∧ Xt H H' ∧ H' r = some (.lst (ms.map V.int)) ∧ ms.length ≤ 62 * i)
      ⟨none, none, none, none, none, [], rfl, Xt.new hr0, upd_same .., Nat.le_refl _⟩ (fun i σ H' _ ⟨c, n, f, j, e, ms, e1, xt, _⟩ => xt.sqL hs) (fun i v σ H' hv hh => ?_) (fun σ H' hh => ?_)⟩⟩
    · obtain ⟨c, n, f, j, e, ms, rfl, xt, hm, hl⟩ := hh
      rw [List.getElem?_map] at hv
      obtain ⟨z, hz, rfl⟩ := Option.map_eq_some_iff.mp hv
      have hi := (List.getElem?_eq_some_iff.mp hz).1
      refine ⟨_, rfl, _, rfl, ?_⟩
      refine ⟨fun σ2 H2 => ∃ (m : Int) (f : Option V) (ms2 : List Int), σ2 = [some (.ref q0), some (.ref r), some (.int z), some (.int m), f, j, e] ∧ Xt H H2 ∧ H2 r = some (.lst (ms2.map V.int)) ∧ ms2.length ≤ 62 * i + 2, ?_, fun σ2 H2 hh => ?_⟩
      · refine ⟨_, rfl, _, _, rfl, rfl, ⟨by decide, by decide, by decide⟩, _, _, rfl, rfl, _, rfl, ite2 (fun h1 => ?_) (fun h1 => ?_)⟩
        · refine ⟨_, rfl, _, _, rfl, rfl, .inr ⟨by decide, by decide⟩, _, _, rfl, rfl, .inl ⟨_, rfl, _, _, rfl, rfl, (by show (0 : Int) < 2147483647; decide), ?_⟩⟩
          refine ⟨_, rfl, .inl ⟨rfl, _, .inl (.inl hm)⟩, _, rfl, _, _, rfl, rfl, .inr ⟨by decide, by decide⟩, _, rfl, _, _, rfl, rfl, .inl ⟨_, rfl, _, _, rfl, rfl, (by show (0 : Int) < 2147483629; decide), r, _, _, rfl, rfl, hm, by rw [List.length_map]; omega, ?_⟩⟩
          refine ⟨_, rfl, .inl ⟨rfl, _, .inl (.inl (upd_same ..))⟩, _, rfl, _, rfl, _, _, rfl, rfl, ⟨by decide, by decide⟩, _, _, rfl, rfl, .inl ⟨_, rfl, _, _, rfl, rfl, (by show (0 : Int) < 1000003; decide), r, _, _, rfl, rfl, upd_same .., by rw [app, List.length_map, List.length_append]; show _ + 1 < _; omega, ?_⟩⟩
          refine ⟨0, _, _, rfl, ((xt.mut hr0).mut hr0), by rw [upd_same, app, app], ?_⟩
          simp only [List.length_append, List.length_cons, List.length_nil]
          omega
        · exact ⟨_, _, _, rfl, xt, hm, by omega⟩
      · obtain ⟨m, f, ms2, rfl, xt2, hm2, hl2⟩ := hh
        refine ⟨60, rfl, by decide, by decide, for_range (n := 60) (fun l σ H' => ∃ (m : Int) (g : Option V) (ms : List Int), σ = [some (.ref q0), some (.ref r), some (.int z), some (.int m), f, g, e] ∧ Xt H H' ∧ H' r = some (.lst (ms.map V.int)) ∧ ms.length ≤ 62 * i + 2 + l)
          ⟨m, _, ms2, rfl, xt2, hm2, hl2⟩ (fun l σ H' hl hh => ?_) (fun σ H' hh => ?_)⟩
        · obtain ⟨m, g, ms, rfl, xt, hm, hl2⟩ := hh
          refine ⟨_, rfl, _, _, rfl, rfl, _, rfl, ite2 (fun h1 => ?_) (fun h1 => ?_)⟩
          · refine ⟨_, rfl, .inl ⟨rfl, _, .inl (.inl hm)⟩, _, rfl, .inl ⟨_, rfl, _, _, rfl, rfl, (by show (0 : Int) < 840; decide), r, _, _, rfl, rfl, hm, by rw [List.length_map]; omega, ?_⟩⟩
            refine ⟨_, rfl, _, _, rfl, rfl, ⟨by decide, by decide⟩, _, _, _, rfl, xt.mut hr0, by rw [upd_same, app], ?_⟩
            simp only [List.length_append, List.length_cons, List.length_nil]
            omega
          · exact ⟨_, _, _, rfl, xt, hm, by omega⟩
        · obtain ⟨m, g, ms, rfl, xt, hm, hl2⟩ := hh
          exact ⟨_, _, _, _, _, ms, rfl, xt, hm, by omega⟩
    · obtain ⟨c, n, f, j, e, ms, rfl, xt, hm, hl⟩ := hh
      rw [List.length_map] at hl
      refine ⟨fun σ2 H2 => H2 = H' ∧ ∃ sd : Int, σ2 = [some (.ref q0), some (.ref r), c, n, f, j, some (.int sd)], ?_, fun σ2 H2 hh => ?_⟩
      · refine ⟨_, rfl, q0, _, rfl, .inl (xt.sqL hs), _, _, rfl, rfl, _, rfl, ite2 (fun h1 => ?_) (fun h1 => ?_)⟩
        · obtain ⟨z, zs, rfl⟩ : ∃ z zs, ns = z :: zs := by
            cases ns with
            | nil => exact absurd h1 (by decide)
            | cons z zs => exact ⟨z, zs, rfl⟩
          exact ⟨_, rfl, q0, _, 0, _, rfl, rfl, xt.sqL hs, atI_nat (j := 0) rfl, _, rfl, _, _, rfl, rfl, rfl, _, rfl⟩
        · exact ⟨rfl, _, rfl⟩
      · obtain ⟨rfl, sd, rfl⟩ := hh
        refine ⟨200, rfl, by decide, by decide, for_range (n := 200) (fun l σ H' => ∃ (sd : Int) (g : Option V) (ms : List Int), σ = [some (.ref q0), some (.ref r), c, n, f, g, some (.int sd)] ∧ Xt H H' ∧ H' r = some (.lst (ms.map V.int)) ∧ ms.length ≤ 62 * ns.length + l)
          ⟨sd, _, ms, rfl, xt, hm, hl⟩ (fun l σ H' hl hh => ?_) (fun σ H' hh => ?_)⟩
        · obtain ⟨sd, g, ms, rfl, xt, hm, hl2⟩ := hh
          refine ⟨_, rfl, _, _, rfl, rfl, .inr ⟨by decide, by decide⟩, _, _, rfl, rfl, .inl ⟨_, rfl, _, _, rfl, rfl, (by show (0 : Int) < 2147483647; decide), ?_⟩⟩
          refine ⟨_, rfl, .inl ⟨rfl, _, .inl (.inl hm)⟩, _, rfl, _, _, rfl, rfl, ⟨by decide, by decide⟩, r, _, _, rfl, rfl, hm, by rw [List.length_map]; omega, ?_⟩
          refine ⟨_, _, _, rfl, xt.mut hr0, by rw [upd_same, app], ?_⟩
          simp only [List.length_append, List.length_cons, List.length_nil]
          omega
        · obtain ⟨sd, g, ms, rfl, xt, hm, hl2⟩ := hh
          refine ⟨_, rfl, r, _, rfl, .inl (.inl hm), fun q1 hq1 => ?_⟩
          refine k _ q1 (xt.trans (Xt.new hq1)) (xt.free hq1) ⟨ms.reverse, by rw [upd_same, List.map_reverse]⟩


/-- _law_same, by its depth: n turns down -/
theorem bl_ne (b : Bool) : (!decide (V.bl b = V.bl b)) = false := by simp
def spSub : Nat → Sp
  | 0 => fun _ _ _ _ => False
  | n + 1 => spSame n
theorem scal_self {v : V} (h : leafV v = true) : scal v v = true := by cases v <;> first | exact Bool.noConfusion h | rfl
theorem fn_none {k : Nat} {f : Addr} {fd : FuncData} {ps : List Str} : FnOk P w K mg base CX0 k f fd ps (fun _ _ _ _ => False) := ⟨fun _ _ _ _ h => h.elim, fun _ _ _ _ _ _ _ _ _ _ _ _ _ h => h.elim⟩
theorem ok_same1 (T : Txt K mg a) (n : Nat) (G__law_same : FnOk P w K mg base CX0 n a.f__law_same a.fd__law_same ["value", "due"] (spSub n)) :
    FnOk P w K mg base CX0 (n + 1) a.f__law_same a.fd__law_same ["value", "due"] (spSame n) := by
  refine T.F__law_same.ok sc__law_same (fun vs H Q E h => ?_) (fun A outer s H vs Q E hr h => ?_)
  · obtain ⟨v, d, rfl, _⟩ := h
    rfl
  · obtain ⟨v, d, rfl, hs, k⟩ := h
    refine ⟨_, (pss_cons (ps_if (PW.pt (pw_or (pt_val (pe_callB (Gx.call_isiK' (K := K) rfl) rfl T.isinstance (by decide +kernel) (pa_cons (pv 1) (pa_cons (pe_bltn (v := .ty "tuple") rfl T.tuple (by decide +kernel) rfl) pa_nil)))) (pw_or1 (pt_val (pe_callB (Gx.call_isiK' (K := K) rfl) rfl T.isinstance (by decide +kernel) (pa_cons (pv 1) (pa_cons (pe_bltn (v := .ty "list") rfl T.list (by decide +kernel) rfl) pa_nil)))))))
  (pss_cons (ps_if (PW.pt (pw_or (pt_cmpR op_ne (pe_callB (Gx.call_isiK' (K := K) rfl) rfl T.isinstance (by decide +kernel) (pa_cons (pv 1) (pa_cons (pe_bltn (v := .ty "tuple") rfl T.tuple (by decide +kernel) rfl) pa_nil))) (pe_callB (Gx.call_isiK' (K := K) rfl) rfl T.isinstance (by decide +kernel) (pa_cons (pv 0) (pa_cons (pe_bltn (v := .ty "tuple") rfl T.tuple (by decide +kernel) rfl) pa_nil))) (nomark _)) (pw_or1 (pt_cmpR op_ne (pe_callB (Gx.call_isiK' (K := K) rfl) rfl T.isinstance (by decide +kernel) (pa_cons (pv 1) (pa_cons (pe_bltn (v := .ty "list") rfl T.list (by decide +kernel) rfl) pa_nil))) (pe_callB (Gx.call_isiK' (K := K) rfl) rfl T.isinstance (by decide +kernel) (pa_cons (pv 0) (pa_cons (pe_bltn (v := .ty "list") rfl T.list (by decide +kernel) rfl) pa_nil))) (nomark _)))))
  (pss_one (ps_ret pe_bl))
  pss_nil)
 (pss_cons (ps_if (pt_cmpR op_ne (pe_callB (Gx.call_len_seqK (K := K) rfl) rfl T.len (by decide +kernel) (pa_cons (pv 0) pa_nil)) (pe_callB (Gx.call_len_seqK (K := K) rfl) rfl T.len (by decide +kernel) (pa_cons (pv 1) pa_nil)) (nomark _))
  (pss_one (ps_ret pe_bl))
  pss_nil)
 (pss_cons (ps_for PassesOwn.never rfl (pi_range1 rfl T.range (pa_cons (pe_callB (Gx.call_len_seqK (K := K) rfl) rfl T.len (by decide +kernel) (pa_cons (pv 1) pa_nil)) pa_nil)) (pg_name (i := 2) sc__law_same.nd rfl (.inl rfl))
  (pss_one (ps_if (pt_not (pt_val (pe_call G__law_same (hr.mono (Nat.le_refl _)) rfl T.g__law_same T.F__law_same.kp T.b__law_same .nil pass0 (pa_cons (pe_ix (Gx.ix_seqK (K := K) rfl) (pv 0) (pv 2) (fun _ _ => rfl)) (pa_cons (pe_ix (Gx.ix_seqK (K := K) rfl) (pv 1) (pv 2) (fun _ _ => rfl)) pa_nil)))))
  (pss_one (ps_ret pe_bl))
  pss_nil)))
 (pss_one (ps_ret pe_bl)))))
  pss_nil)
 (pss_cons (ps_if (PW.pt (pw_or (pt_cmpR op_isN (pv 1) pe_non (nomark _)) (pw_or1 (pt_cmpR op_isN (pv 0) pe_non (nomark _)))))
  (pss_one (ps_ret (pe_and (pe_cmpR op_isN (pv 1) pe_non (nomark _)) (pe_one (pe_cmpR op_isN (pv 0) pe_non (nomark _))))))
  pss_nil)
 (pss_cons (ps_if (pt_cmpR op_ne (pe_callB (Gx.call_isiK' (K := K) rfl) rfl T.isinstance (by decide +kernel) (pa_cons (pv 1) (pa_cons (pe_bltn (v := .ty "bool") rfl T.bool (by decide +kernel) rfl) pa_nil))) (pe_callB (Gx.call_isiK' (K := K) rfl) rfl T.isinstance (by decide +kernel) (pa_cons (pv 0) (pa_cons (pe_bltn (v := .ty "bool") rfl T.bool (by decide +kernel) rfl) pa_nil))) (nomark _))
  (pss_one (ps_ret pe_bl))
  pss_nil)
 (pss_cons (ps_if (PW.pt (pw_or (pt_cmpR op_ne (pe_callB (Gx.call_isiK' (K := K) rfl) rfl T.isinstance (by decide +kernel) (pa_cons (pv 1) (pa_cons (pe_bltn (v := .ty "int") rfl T.int (by decide +kernel) rfl) pa_nil))) (pe_callB (Gx.call_isiK' (K := K) rfl) rfl T.isinstance (by decide +kernel) (pa_cons (pv 0) (pa_cons (pe_bltn (v := .ty "int") rfl T.int (by decide +kernel) rfl) pa_nil))) (nomark _)) (pw_or1 (pt_cmpR op_ne (pe_callB (Gx.call_isiK' (K := K) rfl) rfl T.isinstance (by decide +kernel) (pa_cons (pv 1) (pa_cons (pe_bltn (v := .ty "str") rfl T.str (by decide +kernel) rfl) pa_nil))) (pe_callB (Gx.call_isiK' (K := K) rfl) rfl T.isinstance (by decide +kernel) (pa_cons (pv 0) (pa_cons (pe_bltn (v := .ty "str") rfl T.str (by decide +kernel) rfl) pa_nil))) (nomark _)))))
  (pss_one (ps_ret pe_bl))
  pss_nil)
 (pss_one (ps_ret (pe_cmpR op_eq (pv 0) (pv 1) (nomark _)))))))), ?_⟩
    rcases hs.two with ⟨hv, rfl⟩ | ⟨m, rfl, a1, b1, xs, ys, rfl, rfl, ho, hl, hz, hi⟩
    · refine rd_is (v := v) rfl (leaf_ty hv) (leaf_kit (by simp)) ⟨_, rfl, ?_⟩
      rw [(leaf_seq v).1]
      refine iteF (rd_is (v := v) rfl (leaf_ty hv) (leaf_kit (by simp)) ⟨_, rfl, ?_⟩)
      rw [(leaf_seq v).2]
      refine iteF ?_
      by_cases hnn : v = .non
      · subst hnn
        refine ⟨_, rfl, rfl, _, rfl, ?_⟩
        rw [decide_eq_true rfl]
        refine iteT (iteT ⟨_, rfl, rfl, true, ?_, iteT ⟨_, rfl, rfl, ?_⟩⟩)
        · rw [decide_eq_true rfl]
        · rw [decide_eq_true rfl]
          exact k _ (Xt.refl H)
      refine ⟨_, rfl, rfl, _, rfl, ?_⟩
      rw [decide_eq_false hnn]
      refine iteF ⟨_, rfl, rfl, _, rfl, ?_⟩
      rw [decide_eq_false hnn]
      refine iteF ?_
      refine rd_ne (v := v) (u := v) rfl (leaf_ty hv) rfl (leaf_ty hv) (leaf_kit (by simp)) (iteF ?_)
      refine rd_ne (v := v) (u := v) rfl (leaf_ty hv) rfl (leaf_ty hv) (leaf_kit (by simp)) (iteF (rd_ne (v := v) (u := v) rfl (leaf_ty hv) rfl (leaf_ty hv) (leaf_kit (by simp)) (iteF ?_)))
      refine ⟨_, rfl, _, rfl, scal_self hv, ?_⟩
      rw [decide_eq_true rfl]
      exact k _ (Xt.refl H)
    · obtain ⟨t, u1, u2, c1, c2, k1, k2, ko⟩ : ∃ t, TyX K H (.ref a1) (.type t) ∧ TyX K H (.ref b1) (.type t) ∧ ∃ c1 c2, kitB t "tuple" = some c1 ∧ kitB t "list" = some c2 ∧ (c1 || c2) = true := by
        rcases ho with ⟨h1, h2⟩ | ⟨h1, h2⟩
        · exact ⟨"tuple", .base (.tup h1), .base (.tup h2), true, false, kit_tt, kit_tl, rfl⟩
        · exact ⟨"list", .base (.lst h1), .base (.lst h2), false, true, kit_lt, kit_ll, rfl⟩
      have ha : H a1 = some (.tup xs) ∨ H a1 = some (.lst xs) := ho.imp (·.1) (·.1)
      have hb : H b1 = some (.tup ys) ∨ H b1 = some (.lst ys) := ho.imp (·.2) (·.2)
      refine rd_or (v := .ref b1) rfl u2 k1 k2 ko (iteT ?_)
      refine rd_ne (v := .ref b1) (u := .ref a1) rfl u2 rfl u1 k1 (iteF (rd_ne (v := .ref b1) (u := .ref a1) rfl u2 rfl u1 k2 (iteF ?_)))
      refine ⟨_, rfl, a1, xs, rfl, seq_sq ha, _, rfl, b1, ys, rfl, seq_sq hb, rfl, _, rfl, ?_⟩
      rw [hl, decide_eq_true rfl]
      refine iteF ⟨_, rfl, b1, ys, rfl, seq_sq hb, (ys.length : Int), rfl, by omega, by omega, for_range (n := ((ys.length : Int)).toNat) (fun i σ H' => ∃ kk : Option V, σ = [some (.ref a1), some (.ref b1), kk] ∧ Xt H H') ⟨none, rfl, Xt.refl H⟩ (fun i σ H' hlt hh => ?_) (fun σ H' hh => ?_)⟩
      · obtain ⟨kk, rfl, xt⟩ := hh
        have h1 : i < ys.length := by omega
        have h2 : i < xs.length := by omega
        have e0 : (0 + (i : Int)) = (i : Int) := by omega
        refine ⟨_, rfl, _, rfl, rd_ix (xt.seq ha) (by rw [e0]; exact atI_nat (List.getElem?_eq_getElem h2)) ⟨_, rfl, _, rfl, rd_ix (xt.seq hb) (by rw [e0]; exact atI_nat (List.getElem?_eq_getElem h1)) ?_⟩⟩
        refine ⟨_, _, rfl, (hi i _ _ (List.getElem?_eq_getElem h2) (List.getElem?_eq_getElem h1)).xt xt, fun H1 x1 => ⟨_, rfl, iteF ⟨_, rfl, xt.trans x1⟩⟩⟩
      · obtain ⟨kk, rfl, xt⟩ := hh
        exact k _ xt

theorem ok_least_colouring (T : Txt K mg a) (B : TabT base mg a) (G_numbers_by_last : FnOk P w K mg base CX0 1 a.f_numbers_by_last a.fd_numbers_by_last ["lots"] (spNBL K)) (G_choices_for : FnOk P w K mg base CX0 1 a.f_choices_for a.fd_choices_for ["colours", "k"] (spChoices K)) (G_first_of_one_colour : FnOk P w K mg base CX0 2 a.f_first_of_one_colour a.fd_first_of_one_colour ["lots", "ending", "colours"] (spFoc K a.P_first_of_one_colour)) : FnOk P w K mg base CX0 5 a.f_least_colouring a.fd_least_colouring ["count", "lots", "k"] (spLeast K a) := by
  refine T.F_least_colouring.ok sc_least_colouring (fun vs H Q E h => ?_) (fun A outer s H vs Q E hr h => ?_)
  · obtain ⟨q, ls, us, cnt, k, rfl, _⟩ := h
    rfl
  · obtain ⟨q, ls, us, cnt, k, rfl, hq, hR, hL, hc6, hk, hT, hG, kQ⟩ := h
    refine ⟨_, (pss_cons (ps_set (i := 3) sc_least_colouring.nd rfl (.inr rfl) (pe_call G_numbers_by_last (hr.mono (by decide)) rfl T.g_numbers_by_last T.F_numbers_by_last.kp T.b_numbers_by_last .nil pass0 (pa_cons (pv 1) pa_nil)))
 (pss_one (ps_ret (Gx.pe_lamcallP (TT := TTf) (a := "is_fine") (y := "colours") rfl T.g_first_colouring T.F_first_colouring sc_first_colouring T.b_first_colouring rfl rfl (.inl rfl) (fun f c' s H Q tl v1 v2 hr2 act hc h => ok_first_colouring T B G_choices_for _ _ _ f c' s H Q tl v1 v2 hr2 act hc h) B.tab_least_colouring rfl hr (Gx.lamP_by rfl) rfl (fun _ _ _ _ _ _ => rfl) (fun A s outer H f c1 hr' => (pe_cmpR op_isN (pe_call G_first_of_one_colour (hr'.mono (by decide)) rfl T.g_first_of_one_colour T.F_first_of_one_colour.kp T.b_first_of_one_colour .nil pass0 (pa_cons (pv 1) (pa_cons (pv 3) (pa_cons (pv 4) pa_nil)))) pe_non (nomark _))) (pv 0) (pv 2) rfl rfl)))), ?_⟩
    refine ⟨_, rfl, q, ls, us, cnt, rfl, hq, hR, hL, fun H1 e x1 e0 hN => ?_⟩
    have hP1 := tabL_has (hT.xt x1)
    refine ⟨_, rfl, _, rfl, hT.xt x1, fun H3 xn T3 => ⟨cnt, k, fineB ls, rfl, rfl, hc6, hk, fun H' p cs Q' x' hp hne kk => ?_, fun H4 v x4 hv => ?_⟩⟩
    · refine ⟨_, rfl, _, rfl, _, rfl, q, e, p, ls, us, cs, cnt, rfl, x'.sqL (Xn.sqL xn hP1 (x1.sqL hq)), (RowA.xn xn hP1 (hR.xt x1)).xt x', hL, (hN.xn xn hP1).xt x', .inl (.inl hp), hne, x'.tabG (Xn.tabG xn hP1 (x1.tabG hG)), fun H5 v x5 hv => ⟨rfl, ?_⟩⟩
      rw [hv]
      exact kk _ x5
    · refine kQ _ _ (((Xn.of x1).trans xn).trans (Xn.of x4)) (T3.xt x4) ?_
      rw [find_ok hL] at hv
      have hv : ResV H3 H4 v (due ls cnt k) := hv
      cases hd : due ls cnt k with
      | none =>
        rw [hd] at hv
        exact hv
      | some cs =>
        rw [hd] at hv
        obtain ⟨p, e1, e2, e3⟩ := hv
        exact ⟨p, e1, x1.free (Xn.free xn (tabL_has T3) e2), e3⟩


end
end K40
set_option Elab.async false
set_option linter.all false
set_option maxRecDepth 100000
set_option maxHeartbeats 4000000
namespace K40
open PySem PySem.Spec PyProof.Rows L2 Gx Wq Lw Cq Ct
def spOne (K : PySem.W.Frag) (a : Ads) : Sp := fun vs H Q _ => ∃ (t p : Addr) (r cs : List Nat) (cnt : Nat), vs = [.ref t, .ref p] ∧ H t = some (.tup (nI r)) ∧ LotOk cnt r ∧ SqL K H p (nI cs) ∧ GxR.TabG H a.P_is_of_one_colour ∧ ∀ H1, Xt H H1 → Q (.bl (mono cs r)) H1
def spGiven (K : PySem.W.Frag) : Sp := fun vs H Q _ => ∃ (p : Addr) (cs : List Nat) (k : Nat), vs = [.ref p, .int (k : Int)] ∧ SqL K H p (nI cs) ∧ k ≤ 4 ∧ ∀ l, H l = none → Q (.ref l) (upd H l (.lst (nI (List.range (giv cs k)))))
section
variable {P : Program} {w : World} {K : PySem.W.Frag} {mg : Str → Option Value} {base : Heap} {a : Ads}
theorem ok_is_of_one_colour (T : Txt K mg a) (B : TabT base mg a) : FnOk P w K mg base CX0 2 a.f_is_of_one_colour a.fd_is_of_one_colour ["lot", "colours"] (spOne K a) := by
  refine T.F_is_of_one_colour.ok sc_is_of_one_colour (fun vs H Q E h => ?_) (fun A outer s H vs Q E hr h => ?_)
  · obtain ⟨t, p, r, cs, cnt, rfl, _⟩ := h
    rfl
  · obtain ⟨t, p, r, cs, cnt, rfl, ht, hL, hs, hT, kQ⟩ := h
    refine ⟨_, (pss_one (ps_ret (Gx.pe_allG (own := ["thing"]) (caps := ["colours", "lot"]) (cix := [1, 0]) hr rfl T.all B.tab_is_of_one_colour rfl (Gx.gxs_by (sc := defScope s_is_of_one_colour) (N := ["lot", "colours"]) (by decide +kernel)) (Gx.pi_tupK (K := K) rfl (pv 0)) (fun A s H C cl code bi fp pn hr' => (pg_name (i := 0) (Gx.ndw (own := ["thing"]) (caps := ["colours", "lot"]) (by decide +kernel)) rfl (.inl rfl))) (fun A s H C cl code bi fp pn hr' => pts_nil) (fun A s H C cl code bi fp pn hr' => (pe_and (pe_cmpR op_lt (pv 0) (pe_callB (Gx.call_len_seqK (K := K) rfl) rfl T.len (by decide +kernel) (pa_cons (pv 1) pa_nil)) (nomark _)) (pe_one (pe_cmpR op_eq (pe_ix (Gx.ix_listK (K := K) rfl) (pv 1) (pv 0) (fun _ _ => rfl)) (pe_ix (Gx.ix_listK (K := K) rfl) (pv 1) (pe_ix (Gx.ix_tupK (K := K) rfl) (pv 2) pe_int (fun _ _ => rfl)) (fun _ _ => rfl)) (nomark _)))))))), ?_⟩
    refine ⟨_, rfl, t, rfl, ⟨_, .inl (.inl ht)⟩, hT, fun H2 t2 => ?_⟩
    have x2 : Xt H H2 := Xt.tabbed hT t2
    refine gx_all_tup (oneV cs r) (.inl (.inl (x2.tup ht))) (fun v hv H' N xt kk => ?_) fun H' xt => ?_
    · obtain ⟨x, hx, rfl⟩ := List.mem_map.mp hv
      have hs' := (x2.trans xt).sqL hs
      have ht' := (x2.trans xt).tup ht
      have kk' := kk _ xt
      refine ⟨wk_set rfl, _, rfl, _, rfl, p, _, rfl, .inl hs', _, _, rfl, rfl, _, rfl, ite2 (fun hb => ?_) (fun hb => ?_)⟩
      · have hl : x < cs.length := by
          have h := of_decide_eq_true hb
          rw [nI_len] at h
          omega
        obtain ⟨y, tl, rfl, hy⟩ := hL.head
        have hyl : y < cs.length := Nat.lt_of_le_of_lt (hy x hx) hl
        refine ⟨_, rfl, _, rfl, p, _, _, _, rfl, rfl, hs', atI_nI hl, _, rfl, _, rfl, t, _, _, _, rfl, rfl, .inl (.inl ht'), atI_nI (cs := y :: tl) (x := 0) (Nat.succ_pos _), p, _, _, _, rfl, rfl, hs', atI_nI hyl, rfl, _, rfl, ?_⟩
        rw [dec_nat]
        have e : oneV cs (y :: tl) (.int (x : Int)) = decide (cs.getD x 0 = cs.getD y 0) := by
          show (decide (x < cs.length) && decide (cs.getD x 0 = cs.getD y 0)) = _
          rw [decide_eq_true hl, Bool.true_and]
        rw [e] at kk'
        exact kk'
      · have hl : ¬ x < cs.length := fun z => hb (decide_eq_true (by rw [nI_len]; omega))
        have e : oneV cs r (.int (x : Int)) = false := by
          show (decide (x < cs.length) && decide (cs.getD x 0 = cs.getD (r.headD 0) 0)) = _
          rw [decide_eq_false hl, Bool.false_and]
        rw [e] at kk'
        exact ⟨_, rfl, kk'⟩
    · rw [oneV_all]
      exact kQ _ (x2.trans xt)


theorem ok__law_given (T : Txt K mg a) (B : TabT base mg a) : FnOk P w K mg base CX0 1 a.f__law_given a.fd__law_given ["colours", "k"] (spGiven K) := by
  refine T.F__law_given.ok sc__law_given (fun vs H Q E h => ?_) (fun A outer s H vs Q E hr h => ?_)
  · obtain ⟨p, cs, k, rfl, _⟩ := h
    rfl
  · obtain ⟨p, cs, k, rfl, hs, hk, kQ⟩ := h
    refine ⟨_, (pss_cons (ps_set (i := 2) sc__law_given.nd rfl (.inl rfl) pe_int)
 (C8.pss_cut (ps_if (pt_cmpR op_gt (pe_callB (Gx.call_len_seqK (K := K) rfl) rfl T.len (by decide +kernel) (pa_cons (pv 0) pa_nil)) pe_int (nomark _))
  (pss_one (ps_set (i := 2) sc__law_given.nd rfl (.inl rfl) (pe_op op_add (pe_callB (Gx.cr_maxK (K := K) rfl rfl) rfl T.max (by decide +kernel) (pa_cons (pv 0) pa_nil)) pe_int)))
  pss_nil)
 (pss_one (ps_ret (pe_listRg rfl rfl T.list (prg_1 rfl T.range (pe_callB (call_min2 rfl) rfl T.min (by decide +kernel) (pa_cons (pe_op op_add (pv 2) pe_int) (pa_cons (pv 1) pa_nil))))))))), ?_⟩
    refine ⟨fun σ2 H2 => H2 = H ∧ σ2 = [some (.ref p), some (.int (k : Int)), some (.int (usedN cs : Nat))], ?_, fun σ2 H2 hh => ?_⟩
    rotate_left
    · obtain ⟨rfl, rfl⟩ := hh
      refine ⟨_, rfl, _, _, rfl, rfl, _, rfl, _, _, rfl, ?_⟩
      have e2 : (if (k : Int) < (usedN cs : Int) + 1 then (k : Int) else (usedN cs : Int) + 1) = ((giv cs k : Nat) : Int) := by
        unfold giv
        split <;> omega
      have g3 : giv cs k ≤ 4 := Nat.le_trans (Nat.min_le_right ..) hk
      refine ⟨_, rfl, ⟨by omega, by omega, by omega, by omega, by omega⟩, fun l hl => ?_⟩
      rw [e2, rgV_nat]
      exact kQ l hl
    · refine ⟨_, rfl, p, _, rfl, .inl hs, _, _, rfl, rfl, _, rfl, ite2 (fun hb => ?_) (fun hb => ?_)⟩
      · have hl : 0 < cs.length := by
          have h := of_decide_eq_true hb
          rw [nI_len] at h
          omega
        refine ⟨_, rfl, p, cs.map fun n : Nat => (n : Int), rfl, by rw [nI_int] at hs; exact hs, by rw [List.length_map]; exact hl, fun m hm hle => ⟨_, _, rfl, rfl, rfl, ?_⟩⟩
        show [some (V.ref p), some (V.int (k : Int)), some (V.int (m + 1))] = _
        rw [used_max hm hle]
      · have hl : cs = [] := by
          cases cs with
          | nil => rfl
          | cons c cs => exact absurd (decide_eq_true (by rw [nI_len, List.length_cons]; omega)) hb
        subst hl
        exact ⟨rfl, rfl⟩


end
end K40
set_option Elab.async false
set_option linter.all false
set_option maxRecDepth 100000
set_option maxHeartbeats 4000000
namespace K40
open PySem PySem.Spec PyProof.Rows L2 Gx Wq Lw Cq Ct
def sz : Nat → Tr → Nat
  | 0, _ => 1
  | f + 1, t => match t with
    | .lot _ => 1
    | .give ts => if ts.length ≤ 4 then 1 + (ts.map (sz f)).sum else 1
theorem sz_pos (f : Nat) (t : Tr) : 1 ≤ sz f t := by
  cases f with
  | zero => exact Nat.le_refl _
  | succ f =>
    cases t with
    | lot z => exact Nat.le_refl _
    | give ts =>
      show 1 ≤ if ts.length ≤ 4 then 1 + (ts.map (sz f)).sum else 1
      split <;> omega
theorem sz_le : ∀ (f : Nat) (t : Tr), sz f t ≤ 5 ^ f
  | 0, _ => Nat.le_refl _
  | f + 1, .lot _ => Nat.one_le_iff_ne_zero.mpr (by simp)
  | f + 1, .give ts => by
    have p : 1 ≤ 5 ^ f := Nat.one_le_iff_ne_zero.mpr (by simp)
    have go : ∀ l : List Tr, (l.map (sz f)).sum ≤ l.length * 5 ^ f := by
      intro l
      induction l with
      | nil => exact Nat.zero_le _
      | cons x l ih =>
        rw [List.map_cons, List.sum_cons, List.length_cons, Nat.add_mul]
        have := sz_le f x
        omega
    show (if ts.length ≤ 4 then 1 + (ts.map (sz f)).sum else 1) ≤ 5 ^ f * 5
    split
    · rename_i h
      have h2 := go ts
      have h3 : ts.length * 5 ^ f ≤ 4 * 5 ^ f := Nat.mul_le_mul_right _ h
      omega
    · omega

open Ct
theorem TrV.re {H : Hp} {S S' : Addr → Prop} {w : Nat} (hS : ∀ a xs, H a = some (.lst xs) → S a → S' a) : ∀ (n : Nat) (t : Tr) (v : V), TrV H S w n t v → TrV H S' w n t v
  | 0, _, _, h => h.elim
  | n + 1, .lot z, v, h => h
  | n + 1, .give ts, v, ⟨a, l, xs, e, h1, h2, hs, h3, h4⟩ => ⟨a, l, xs, e, h1, h2, hS _ _ h2 hs, h3, h4.imp fun t v q => TrV.re hS n t v q⟩
/-- what waits to be judged -/
def ItV (S : Addr → Prop) (w n : Nat) (it : List Nat × Tr) (H : Hp) (v : V) : Prop := ∃ t p u, v = .ref t ∧ H t = some (.tup [.ref p, u]) ∧ S p ∧ H p = some (.lst (nI it.1)) ∧ TrV H S w n it.2 u
theorem ItV.xt {H H' : Hp} {S : Addr → Prop} {w n : Nat} {it : List Nat × Tr} {v : V} (x : Xt H H') (h : ItV S w n it H v) : ItV S w n it H' v := by
  obtain ⟨t, p, u, e, h1, h2, h3, h4⟩ := h
  exact ⟨t, p, u, e, x.tup h1, h2, x.lst h3, h4.xt x⟩
theorem ItV.put {H : Hp} {S : Addr → Prop} {D : Addr} {acc : List V} {o : HO} {w n : Nat} {it : List Nat × Tr} {v : V} (hD : H D = some (.lst acc)) (hS : ∀ a, S a → a ≠ D) (h : ItV S w n it H v) : ItV S w n it (upd H D o) v := by
  obtain ⟨t, p, u, e, h1, h2, h3, h4⟩ := h
  refine ⟨t, p, u, e, ?_, h2, ?_, h4.put hD hS⟩
  · rw [upd_ne fun z => by
      rw [z, hD] at h1
      cases h1]
    exact h1
  · rw [upd_ne (hS p h2)]
    exact h3
theorem ItV.up {H : Hp} {S S' : Addr → Prop} {w n : Nat} {it : List Nat × Tr} {v : V} (hS : ∀ a, S a → S' a) (h : ItV S w n it H v) : ItV S' w n it H v := by
  obtain ⟨t, p, u, e, h1, h2, h3, h4⟩ := h
  exact ⟨t, p, u, e, h1, hS _ h2, h3, h4.up hS (Nat.le_refl _) (Nat.le_refl _)⟩
def szS (cnt : Nat) (l : List (List Nat × Tr)) : Nat := (l.map fun it => sz (cnt - it.1.length) it.2).sum
theorem szS_len (cnt : Nat) : ∀ l, l.length ≤ szS cnt l
  | [] => Nat.le_refl _
  | it :: l => by
    have h1 := szS_len cnt l
    have h2 := sz_pos (cnt - it.1.length) it.2
    unfold szS at h1 ⊢
    rw [List.length_cons, List.map_cons, List.sum_cons]
    omega
theorem szS_app (cnt : Nat) (l m : List (List Nat × Tr)) : szS cnt (l ++ m) = szS cnt l + szS cnt m := by
  unfold szS
  rw [List.map_append, List.sum_append]
def jdS (ls : List (List Nat)) (k cnt : Nat) (l : List (List Nat × Tr)) : Bool := l.all fun it => jd ls k (cnt - it.1.length) it.1 it.2
theorem map_range {α β : Type} (r : List α) (z : α) (q : α → β) : ((List.range r.length).map fun i => q (r.getD i z)) = r.map q := by
  refine List.ext_getElem? fun i => ?_
  rw [List.getElem?_map, List.getElem?_map]
  by_cases h : i < r.length
  · rw [List.getElem?_range h, List.getElem?_eq_getElem h]
    show some (q (r.getD i z)) = _
    rw [List.getD_eq_getElem?_getD, List.getElem?_eq_getElem h]
    rfl
  · rw [List.getElem?_eq_none (by rw [List.length_range]; omega), List.getElem?_eq_none (by omega)]
    rfl
def JW (cnt k : Nat) (q lw : Addr) (v : V) (ls : List (List Nat)) (w n : Nat) (tot : Bool) (H : Hp) (j : Nat) (σ : L2.St) (H' : Hp) : Prop :=
  ∃ (items : List (List Nat × Tr)) (vs : List V) (c5 c6 c7 : Option V), σ = [some (.int (cnt : Int)), some (.ref q), some (.int (k : Int)), some v, some (.ref lw), c5, c6, c7, none, none] ∧ Xt H H' ∧ H' lw = some (.lst vs) ∧
    All2 (fun it y => ItV (fun a => a ≠ lw) w n it H' y) items vs ∧ (∀ it ∈ items, it.1.length ≤ cnt) ∧ j = szS cnt items ∧ j ≤ 15625 ∧ jdS ls k cnt items = tot
def spJudge (K : PySem.W.Frag) (a : Ads) : Sp := fun vs H Q _ => ∃ (q : Addr) (v : V) (ls : List (List Nat)) (us : List V) (tr : Tr) (S : Addr → Prop) (w n cnt k : Nat), vs = [.int (cnt : Int), .ref q, .int (k : Int), v] ∧ SqL K H q us ∧ RowA H ls us ∧ Lts cnt ls ∧ k ≤ 4 ∧ TrV H S w n tr v ∧ GxR.TabG H a.P_is_of_one_colour ∧
  ∀ H1, Xt H H1 → Q (.bl (jd ls k cnt [] tr)) H1
theorem ne_lot : decide (V.str "give" = V.str "lot") = false := by decide +kernel
section
variable {P : Program} {w : World} {K : PySem.W.Frag} {mg : Str → Option Value} {base : Heap} {a : Ads}
theorem ok_judge_colours (T : Txt K mg a) (B : TabT base mg a) (G_is_of_one_colour : FnOk P w K mg base CX0 2 a.f_is_of_one_colour a.fd_is_of_one_colour ["lot", "colours"] (spOne K a)) (G_choices_for : FnOk P w K mg base CX0 1 a.f_choices_for a.fd_choices_for ["colours", "k"] (spChoices K)) : FnOk P w K mg base CX0 3 a.f_judge_colours a.fd_judge_colours ["count", "lots", "k", "tree"] (spJudge K a) := by
  refine T.F_judge_colours.ok sc_judge_colours (fun vs H Q E h => ?_) (fun A outer s H vs Q E hr h => ?_)
  · obtain ⟨q, v, ls, us, tr, S, w, n, cnt, k, rfl, _⟩ := h
    rfl
  · obtain ⟨q, v, ls, us, tr, S, w, n, cnt, k, rfl, hq, hR, hL, hk, hv, hT, kQ⟩ := h
    refine ⟨_, (pss_cons (ps_set (i := 4) sc_judge_colours.nd rfl (.inl rfl) (pe_lst (pa_cons (pe_tup (pa_cons (pe_lst pa_nil) (pa_cons (pv 3) pa_nil))) pa_nil)))
 (pss_cons (ps_while PassesOwn.never (Gx.pt_truthK (K := K) rfl (pv 4) (by intro _; rfl))
  (pss_cons (ps_asg (Gx.pe_bm0K (K := K) rfl PySem.F.plainAttrs_list PySem.F.slot_list_pop PySem.F.type_list_pop mt_pop (pv 4)) (Gx.pg_tupK (K := K) rfl (n := 2) rfl (pgs_cons (pg_name (i := 5) sc_judge_colours.nd rfl (.inr rfl)) (pgs_cons (Gx.pg_tupK (K := K) rfl (n := 2) rfl (pgs_cons (pg_name (i := 6) sc_judge_colours.nd rfl (.inl rfl)) (pgs_cons (pg_name (i := 7) sc_judge_colours.nd rfl (.inl rfl)) pgs_nil))) pgs_nil))))
 (pss_one (ps_if (pt_cmpR op_eq (pv 6) pe_str (nomark _))
  (pss_one (ps_if (PW.pt (pw_or (pt_not (pt_chain op_le op_lt pe_int (pv 7) (pe_callB (Gx.call_len_seqK (K := K) rfl) rfl T.len (by decide +kernel) (pa_cons (pv 1) pa_nil)))) (pw_or1 (pt_not (pt_val (pe_call G_is_of_one_colour (hr.mono (by decide)) rfl T.g_is_of_one_colour T.F_is_of_one_colour.kp T.b_is_of_one_colour .nil pass0 (pa_cons (pe_ix (Gx.ix_listK (K := K) rfl) (pv 1) (pv 7) (fun _ _ => rfl)) (pa_cons (pv 5) pa_nil))))))))
  (pss_one (ps_ret pe_bl))
  pss_nil))
  (pss_cons (ps_if (PW.pt (pw_or (pt_cmpR op_ge (pe_callB (Gx.call_len_seqK (K := K) rfl) rfl T.len (by decide +kernel) (pa_cons (pv 5) pa_nil)) (pv 0) (nomark _)) (pw_or1 (pt_cmpR op_ne (pe_callB (Gx.call_len_seqK (K := K) rfl) rfl T.len (by decide +kernel) (pa_cons (pv 7) pa_nil)) (pe_call G_choices_for (hr.mono (by decide)) rfl T.g_choices_for T.F_choices_for.kp T.b_choices_for .nil pass0 (pa_cons (pv 5) (pa_cons (pv 2) pa_nil))) (nomark _)))))
  (pss_one (ps_ret pe_bl))
  pss_nil)
 (pss_one (ps_expr (Gx.pe_bmK (K := K) rfl PySem.F.plainAttrs_list PySem.F.slot_list_extend PySem.F.type_list_extend mt_extend (pv 4) (pa_cons (pe_lc (own := [("colour", 8), ("below", 9)]) rfl sc_judge_colours.nd (Gx.pi_enumK (K := K) rfl rfl T.enumerate (pa_cons (pv 7) pa_nil)) (blkOk_by (own := [("colour", 8), ("below", 9)]) (N := ["count", "lots", "k", "tree", "waiting", "colours", "word", "told", "colour", "below"]) (sc := defScope s_judge_colours) (by decide +kernel)) (fun _ _ _ _ _ => (Gx.pg_tupK (K := K) rfl (n := 2) rfl (pgs_cons (pg_name (i := 8) sc_judge_colours.nd rfl (.inl rfl)) (pgs_cons (pg_name (i := 9) sc_judge_colours.nd rfl (.inl rfl)) pgs_nil)))) (fun _ _ _ _ _ => pts_nil) (fun _ _ _ _ _ => (pe_tup (pa_cons (pe_lst (Gx.pa_starK (K := K) rfl (pv 5) (pa_cons (pv 8) pa_nil))) (pa_cons (pv 9) pa_nil))))) pa_nil)))))))))
 (pss_one (ps_ret pe_bl)))), ?_⟩
    have zl : 200001 ≤ sizeLine := by decide
    have hc6 := hL.c6
    refine ⟨Nat.zero_le _, fun l0 hl0 => ⟨_, rfl, by show 2 ≤ sizeLine; decide, fun t0 ht0 => ⟨by show 1 ≤ sizeLine; decide, fun lw hlw => ?_⟩⟩⟩
    have xa : Xt H (upd (upd H l0 (.lst [])) t0 (.tup [.ref l0, v])) := (Xt.new hl0).trans (Xt.new ht0)
    have hlwH : H lw = none := xa.free hlw
    have x0 : Xt H (upd (upd (upd H l0 (.lst [])) t0 (.tup [.ref l0, v])) lw (.lst [.ref t0])) := xa.trans (Xt.new hlw)
    have hv0 : TrV H (fun a => a ≠ lw) w n tr v := TrV.re (fun a xs e _ => ne_of_none e hlwH) n tr v hv
    have i0 : ItV (fun a => a ≠ lw) w n ([], tr) (upd (upd (upd H l0 (.lst [])) t0 (.tup [.ref l0, v])) lw (.lst [.ref t0])) (.ref t0) := by
      have n1 : l0 ≠ t0 := ne_of_none (upd_same ..) ht0
      refine ⟨t0, l0, v, rfl, (Xt.new hlw).tup (upd_same ..), fun z => ?_, (Xt.new hlw).lst (by rw [upd_ne n1, upd_same]; rfl), hv0.xt x0⟩
      rw [← z, upd_ne n1, upd_same] at hlw
      cases hlw
    refine ⟨JW cnt k q lw v ls w n (jd ls k cnt [] tr) H, ⟨szS cnt [([], tr)], [([], tr)], [.ref t0], none, none, none, rfl, x0, upd_same .., .cons i0 .nil, fun it hit => by rw [List.mem_singleton.mp hit]; exact Nat.zero_le _, rfl, ?_, ?_⟩, ?_⟩
    · have h1 := sz_le cnt tr
      have h2 : 5 ^ cnt ≤ 5 ^ 6 := Nat.pow_le_pow_right (n := 5) (by decide) hc6
      show sz (cnt - 0) tr + 0 ≤ 15625
      rw [Nat.sub_zero]
      omega
    · show (jd ls k (cnt - 0) [] tr && true) = _
      rw [Nat.sub_zero, Bool.and_true]
    rintro j σ H' ⟨items, vs, c5, c6, c7, rfl, x1, hlw1, hA, hcl, hj, hj4, htot⟩
    refine ⟨_, rfl, _, .inl ⟨vs, .inl (.inl hlw1), rfl⟩, ite2 (fun hb => ?_) (fun hb => ?_)⟩
    · rcases List.eq_nil_or_concat items with z | ⟨init, it, z⟩
      · rw [z] at hA
        cases hA
        exact absurd hb (by decide)
      rw [List.concat_eq_append] at z
      subst z
      have hvl : vs.length = init.length + 1 := by rw [hA.len, List.length_append]; rfl
      obtain ⟨y, hy, hit⟩ := hA.get (i := init.length) (x := it) (by rw [List.getElem?_append_right (Nat.le_refl _), Nat.sub_self]; rfl)
      have hA2 : All2 (fun it y => ItV (fun a => a ≠ lw) w n it H' y) init vs.dropLast := by
        have h := hA.take init.length
        rw [List.take_append_of_le_length (Nat.le_refl _), List.take_length] at h
        rw [List.dropLast_eq_take, hvl]
        exact h
      obtain ⟨ti, pc, u, rfl, hti, hpl, hpc, htr⟩ := hit
      have hcs := hcl it (List.mem_append_right _ (List.mem_singleton.mpr rfl))
      obtain ⟨cs, tr1⟩ := it
      have hcs : cs.length ≤ cnt := hcs
      have hpc : H' pc = some (.lst (nI cs)) := hpc
      have htr : TrV H' (fun a => a ≠ lw) w n tr1 u := htr
      have htot2 : (jdS ls k cnt init && jd ls k (cnt - cs.length) cs tr1) = jd ls k cnt [] tr := by
        rw [← htot]
        unfold jdS
        rw [List.all_append]
        show _ = (_ && (_ && true))
        rw [Bool.and_true]
      have hj2 : j = szS cnt init + sz (cnt - cs.length) tr1 := by
        rw [hj, szS_app]
        rfl
      have xP : ∀ o, Xt H (upd H' lw o) := fun o => x1.mut hlwH
      have hti2 : ∀ o, upd H' lw o ti = some (.tup [.ref pc, u]) := fun o => by
        rw [upd_ne fun z => by rw [z, hlw1] at hti; cases hti]
        exact hti
      have hpc2 : ∀ o, upd H' lw o pc = some (.lst (nI cs)) := fun o => by rw [upd_ne hpl]; exact hpc
      have htr2 : ∀ o, TrV (upd H' lw o) (fun a => a ≠ lw) w n tr1 u := fun o => htr.put hlw1 fun a h => h
      have hA3 : ∀ o, All2 (fun it y => ItV (fun a => a ≠ lw) w n it (upd H' lw o) y) init vs.dropLast := fun o => hA2.imp fun it y h => h.put hlw1 fun a h => h
      refine ⟨fun σ2 H2 => ∃ m', m' < j ∧ JW cnt k q lw v ls w n (jd ls k cnt [] tr) H m' σ2 H2, fun _ _ h => h, ?_⟩
      have hg := hti2 (.lst vs.dropLast)
      have hp2 := hpc2 (.lst vs.dropLast)
      have ht2 := htr2 (.lst vs.dropLast)
      have hA4 := hA3 (.lst vs.dropLast)
      have x2 := xP (.lst vs.dropLast)
      have hl2 : upd H' lw (.lst vs.dropLast) lw = some (.lst vs.dropLast) := upd_same ..
      refine ⟨_, rfl, .inl ⟨rfl, _, .inl (.inl hlw1)⟩, lw, vs, _, rfl, rfl, hlw1, by rw [hvl]; exact hy, ti, _, rfl, .inl (.inl hg), rfl, _, _, rfl, _, _, rfl, ?_⟩
      generalize upd H' lw (.lst vs.dropLast) = H2 at hg hp2 ht2 hA4 x2 hl2
      have hq2 := x2.sqL hq
      have hul : us.length = ls.length := hR.len
      cases n with
      | zero => exact ht2.elim
      | succ n =>
      cases tr1 with
      | lot z =>
        obtain ⟨tu, rfl, htu⟩ := ht2
        refine ⟨tu, _, rfl, .inl (.inl htu), rfl, _, _, rfl, _, _, rfl, rfl, rfl, ?_⟩
        refine ⟨_, rfl, rfl, _, rfl, ?_⟩
        rw [decide_eq_true rfl]
        refine iteT ?_
        have htot3 : (jdS ls k cnt init && lotB ls cs z) = jd ls k cnt [] tr := by rw [← htot2, jd_lot]
        have bad : lotB ls cs z = false → ∀ H3, Xt H H3 → Q (.bl false) H3 := fun hz H3 x3 => by
          have h := kQ H3 x3
          rw [← htot3, hz, Bool.and_false] at h
          exact h
        refine ⟨_, rfl, _, _, rfl, rfl, _, rfl, ite2 (fun hz0 => ?_) (fun hz0 => ?_)⟩
        · have hz0 : 0 ≤ z := of_decide_eq_true hz0
          refine ⟨_, rfl, q, _, rfl, .inl hq2, _, _, rfl, rfl, _, rfl, ite2 (fun hz1 => ?_) (fun hz1 => ?_)⟩
          · have hz1 : ¬ z < (us.length : Int) := fun h => by
              rw [decide_eq_true h] at hz1
              exact absurd hz1 (by decide)
            have e : lotB ls cs z = false := by
              unfold lotB
              rw [decide_eq_false (show ¬ z < (ls.length : Nat) by omega), Bool.and_false, Bool.false_and]
            exact bad e _ x2
          · have hz1 : z < (us.length : Int) := by
              have h := eq_false_of_ne_true hz1
              rw [Bool.not_eq_false'] at h
              exact of_decide_eq_true h
            obtain ⟨m, rfl⟩ : ∃ m : Nat, z = m := ⟨z.toNat, by omega⟩
            have hm : m < ls.length := by omega
            have hR2 := hR.xt x2
            obtain ⟨vr, hvr, hrv⟩ := hR2.get (List.getElem?_eq_getElem hm)
            obtain ⟨tv, rfl, htv⟩ := id hrv
            refine ⟨_, rfl, _, rfl, q, us, _, _, rfl, rfl, hq2, atI_nat hvr, _, rfl, tv, pc, ls[m], cs, cnt, rfl, htv, hL.ok _ (List.getElem_mem hm), .inl (.inl hp2), x2.tabG hT, fun H3 x3 => ⟨_, rfl, ?_⟩⟩
            have e : lotB ls cs (m : Int) = mono cs ls[m] := by
              unfold lotB
              rw [decide_eq_true (show (0 : Int) ≤ (m : Int) by omega), decide_eq_true (show (m : Int) < (ls.length : Nat) by omega), Bool.true_and, Bool.true_and]
              show mono cs (ls.getD m []) = _
              rw [List.getD_eq_getElem?_getD, List.getElem?_eq_getElem hm]
              rfl
            rw [← e]
            cases hm2 : lotB ls cs (m : Int) with
            | false => exact bad hm2 _ (x2.trans x3)
            | true =>
              rw [hm2, Bool.and_true] at htot3
              have h1 : 1 ≤ sz (cnt - cs.length) (.lot (m : Int)) := sz_pos _ _
              exact ⟨szS cnt init, by omega, init, vs.dropLast, _, _, _, rfl, x2.trans x3, x3.lst hl2, hA4.imp fun _ _ h => h.xt x3, fun it h => hcl it (List.mem_append_left _ h), rfl, by omega, htot3⟩
        · have e : lotB ls cs z = false := by
            unfold lotB
            rw [decide_eq_false (fun h => hz0 (decide_eq_true h)), Bool.false_and, Bool.false_and]
          exact ⟨_, rfl, bad e _ x2⟩
      | give ts =>
        obtain ⟨tu, l, xs, rfl, htu, hl, hll, hw, hts⟩ := ht2
        refine ⟨tu, _, rfl, .inl (.inl htu), rfl, _, _, rfl, _, _, rfl, rfl, rfl, ?_⟩
        refine ⟨_, rfl, rfl, _, rfl, ?_⟩
        rw [ne_lot]
        refine iteF ?_
        have bad : jd ls k (cnt - cs.length) cs (.give ts) = false → ∀ H3, Xt H H3 → Q (.bl false) H3 := fun hz H3 x3 => by
          have h := kQ H3 x3
          rw [← htot2, hz, Bool.and_false] at h
          exact h
        refine ⟨_, rfl, pc, _, rfl, .inl (.inl (.inl hp2)), _, rfl, _, _, rfl, rfl, _, rfl, ite2 (fun hb2 => ?_) (fun hb2 => ?_)⟩
        · have h : cnt ≤ cs.length := by
            have h := of_decide_eq_true hb2
            rw [nI_len] at h
            omega
          refine bad ?_ _ x2
          rw [show cnt - cs.length = 0 by omega]
          rfl
        · have hlt : cs.length < cnt := by
            rcases Nat.lt_or_ge cs.length cnt with h | h
            · exact h
            · exact absurd (decide_eq_true (by rw [nI_len]; omega)) hb2
          obtain ⟨f, hf⟩ : ∃ f, cnt - cs.length = f + 1 := ⟨cnt - cs.length - 1, by omega⟩
          have hxl : xs.length = ts.length := hts.len
          have ejd : jd ls k (f + 1) cs (.give ts) = (decide (ts.length = giv cs k) && (List.range ts.length).all fun i => jd ls k f (cs ++ [i]) (ts.getD i (.lot 0))) := rfl
          rw [hf] at bad htot2 hj2
          refine ⟨_, rfl, l, _, rfl, .inl (.inl (.inl hl)), _, rfl, _, rfl, pc, cs, k, rfl, .inl (.inl hp2), rfl, _, rfl, ?_⟩
          have ene : (!decide (V.int ((xs.length : Nat) : Int) = V.int ((giv cs k : Nat) : Int))) = !decide (ts.length = giv cs k) := by rw [dec_nat, hxl]
          rw [ene]
          by_cases hgv : ts.length = giv cs k
          · rw [decide_eq_true hgv]
            rw [ejd, decide_eq_true hgv, Bool.true_and] at htot2
            have gv3 : giv cs k ≤ 4 := Nat.le_trans (Nat.min_le_right ..) hk
            have esz : sz (f + 1) (.give ts) = 1 + (ts.map (sz f)).sum := if_pos (show ts.length ≤ 4 by omega)
            refine ⟨_, rfl, .inl ⟨rfl, _, .inl (.inl hl2)⟩, _, rfl, l, _, rfl, .inl (.inl hl), fun D hD => ?_⟩
            have hDl : lw ≠ D := ne_of_none hl2 hD
            refine lcX (J := Ite K l) xs.length (fun i (a : List Nat × Tr) => a = (cs ++ [i], ts.getD i (.lot 0))) (fun a H y => ItV (fun b => b ≠ lw ∧ b ≠ D) w (n + 1) a H y) hD (by omega) (fun _ _ _ _ x h => h.xt x) (fun _ _ _ _ _ e h => h.put e fun _ h => h.2) (fun i H3 hi x => ⟨xs, _, .inl (.inl (x.lst hl)), List.getElem?_eq_getElem hi⟩) (fun H3 x => ⟨xs, .inl (.inl (x.lst hl)), Nat.le_refl _⟩) (fun i v' H3 H4 Y N hi x hD3 hy kY => ?_) (fun H3 ys its x hD3 hil hR3 hC => ?_)
            · obtain ⟨tt, xi, rfl, htt, rfl, hxi⟩ := hy
              have hxi2 := hxi xs (.inl (.inl (x.lst hl)))
              obtain ⟨tri, htri, hvi⟩ := hts.at hxi2
              obtain ⟨acc, hD3⟩ := hD3
              have x4 : Xt H3 (upd H3 tt (.tup [.int (i : Nat), xi])) := Xt.new htt
              refine ⟨tt, _, rfl, .inl (.inl (upd_same ..)), rfl, _, _, rfl, _, _, rfl, rfl, rfl, _, rfl, pc, _, rfl, .inr (.inl (.inl (x4.lst (x.lst hp2)))), _, rfl, ?_, fun l3 hl3 => ⟨_, rfl, by show 2 ≤ sizeLine; decide, fun t3 ht3 => ?_⟩⟩
              · rw [List.length_append, nI_len]
                show cs.length + 1 ≤ sizeLine
                omega
              · have x5 := (x4.trans (Xt.new (o := .lst (nI cs ++ [.int (i : Nat)])) hl3)).trans (Xt.new (o := .tup [.ref l3, xi]) ht3)
                refine kY _ _ (cs ++ [i], ts.getD i (.lot 0)) x5 rfl ⟨t3, l3, xi, rfl, upd_same .., ⟨fun z => ?_, fun z => ?_⟩, ?_, ?_⟩
                · rw [z, (x.trans x4).lst hl2] at hl3
                  cases hl3
                · rw [z, x4.lst hD3] at hl3
                  cases hl3
                · refine (Xt.new ht3).lst ?_
                  rw [upd_same]
                  show some (HO.lst (nI cs ++ [.int (i : Nat)])) = some (HO.lst (nI (cs ++ [i])))
                  rw [show nI (cs ++ [i]) = nI cs ++ [.int (i : Int)] from List.map_append]
                · rw [List.getD_eq_getElem?_getD, htri]
                  have h1 : TrV H2 (fun b => b ≠ lw ∧ b ≠ D) w n tri xi := TrV.re (fun a xs e h => ⟨h, ne_of_none e hD⟩) n tri xi hvi
                  exact ((h1.xt x).xt x5).up (fun _ h => h) (Nat.le_refl _) (Nat.le_succ _)
            · have hl3 := x.lst hl2
              have eits : its = (List.range ts.length).map fun i => (cs ++ [i], ts.getD i (.lot 0)) := by
                refine List.ext_getElem? fun i => ?_
                by_cases hi : i < ts.length
                · rw [List.getElem?_map, List.getElem?_range hi, List.getElem?_eq_getElem (by omega)]
                  exact congrArg some (hR3 i _ (List.getElem?_eq_getElem (by omega)))
                · rw [List.getElem?_eq_none (by omega), List.getElem?_eq_none (by rw [List.length_map, List.length_range]; omega)]
              have esum : szS cnt its = (ts.map (sz f)).sum := by
                unfold szS
                rw [eits, List.map_map, ← map_range ts (.lot 0) (sz f)]
                congr 1
                refine List.map_congr_left fun i _ => ?_
                show sz (cnt - (cs ++ [i]).length) _ = _
                rw [List.length_append, show cnt - (cs.length + [i].length) = f by show cnt - (cs.length + 1) = f; omega]
              have ejs : jdS ls k cnt its = (List.range ts.length).all fun i => jd ls k f (cs ++ [i]) (ts.getD i (.lot 0)) := by
                unfold jdS
                rw [eits, List.all_map]
                congr 1
                funext i
                show jd ls k (cnt - (cs ++ [i]).length) (cs ++ [i]) _ = _
                rw [List.length_append, show cnt - (cs.length + [i].length) = f by show cnt - (cs.length + 1) = f; omega]
              have il := szS_len cnt init
              have dl : vs.dropLast.length = init.length := hA4.len
              refine ⟨lw, D, _, ys, rfl, rfl, hl3, hD3, by rw [dl, hC.len, hil]; omega, ?_⟩
              have hA5 : All2 (fun it y => ItV (fun a => a ≠ lw) w (n + 1) it H3 y) (init ++ its) (vs.dropLast ++ ys) := (hA4.imp fun _ _ h => h.xt x).app (hC.imp fun _ _ h => h.up fun _ h => h.1)
              refine ⟨szS cnt (init ++ its), by rw [szS_app, esum]; omega, init ++ its, _, _, _, _, rfl, (x2.trans x).mut hlwH, upd_same .., hA5.imp fun _ _ h => h.put hl3 fun _ h => h, fun it h => ?_, rfl, by rw [szS_app, esum]; omega, ?_⟩
              · rcases List.mem_append.mp h with h | h
                · exact hcl it (List.mem_append_left _ h)
                · rw [eits] at h
                  obtain ⟨i, _, rfl⟩ := List.mem_map.mp h
                  show (cs ++ [i]).length ≤ cnt
                  rw [List.length_append]
                  show cs.length + 1 ≤ cnt
                  omega
              · rw [← htot2, ← ejs]
                unfold jdS
                rw [List.all_append]
          · rw [decide_eq_false hgv]
            refine bad ?_ _ x2
            rw [ejd, decide_eq_false hgv, Bool.false_and]
    · have hnil : vs = [] := by
        cases vs with
        | nil => rfl
        | cons x l => exact absurd rfl hb
      subst hnil
      cases hA
      have h := kQ _ x1
      rw [← htot] at h
      exact h


end
end K40
set_option Elab.async false
set_option linter.all false
set_option maxRecDepth 100000
set_option maxHeartbeats 4000000
namespace K40
open PySem PySem.Spec PyProof.Rows L2 Gx Wq Lw Cq Ct
/-! ### a tree, or None -/
def OtV (H : Hp) (S : Addr → Prop) (w n : Nat) (o : Option Tr) (v : V) : Prop := match o with
  | none => v = .non
  | some t => TrV H S w n t v
def trD : Nat → Tr → PyData
  | 0, _ => .none
  | _ + 1, .lot z => .tuple [.str "lot", .int z]
  | n + 1, .give ts => .tuple [.str "give", .list (ts.map (trD n))]
def otD (n : Nat) : Option Tr → PyData
  | none => .none
  | some t => trD n t
theorem dpAll_of {α : Type} {K : PySem.W.Frag} {H : Hp} {f : α → PyData} {l : List α} {vs : List V} (h : All2 (fun a v => Dp K H v (f a)) l vs) : DpAll K H vs (l.map f) := by
  induction h with
  | nil => exact .nil
  | cons h _ ih => exact .cons h ih
theorem TrV.dp {K : PySem.W.Frag} {H : Hp} {S : Addr → Prop} {w : Nat} : ∀ (n : Nat) (t : Tr) (v : V), TrV H S w n t v → Dp K H v (trD n t)
  | 0, _, _, h => h.elim
  | _ + 1, .lot z, _, ⟨a, e, h⟩ => by
    subst e
    exact .tup (.inl (.inl h)) (.cons (.str _) (.cons (.int _) .nil))
  | n + 1, .give ts, _, ⟨a, l, xs, e, h1, h2, hs, h3, h4⟩ => by
    subst e
    exact .tup (.inl (.inl h1)) (.cons (.str _) (.cons (.lst (.inl (.inl h2)) (dpAll_of (h4.imp fun t v q => TrV.dp n t v q))) .nil))
theorem OtV.dp {K : PySem.W.Frag} {H : Hp} {S : Addr → Prop} {w n : Nat} {o : Option Tr} {v : V} (h : OtV H S w n o v) : Dp K H v (otD n o) := by
  cases o with
  | none => rw [show v = .non from h]; exact .non
  | some t => exact TrV.dp n t v h
theorem lay_map {α : Type} {f : α → PyData} {m : Nat} : ∀ {l : List α}, (∀ x ∈ l, (f x).canLay0 = true ∧ (f x).depth ≤ m) → PyData.canLayAll0 (l.map f) = true ∧ PyData.depthAll (l.map f) ≤ m
  | [], _ => ⟨rfl, Nat.zero_le _⟩
  | x :: l, h => by
    obtain ⟨h1, h2⟩ := lay_map fun y hy => h y (List.mem_cons_of_mem _ hy)
    obtain ⟨h3, h4⟩ := h x (List.mem_cons_self ..)
    refine ⟨?_, ?_⟩
    · show (PyData.canLay0 (f x) && PyData.canLayAll0 (l.map f)) = true
      rw [h1, h3]; rfl
    · show max (f x).depth (PyData.depthAll (l.map f)) ≤ m
      omega
theorem lay_lot : PyData.canLay0 (.str "lot") = true := by decide +kernel
theorem lay_give : PyData.canLay0 (.str "give") = true := by decide +kernel
theorem trD_ok : ∀ (n : Nat) (t : Tr), (trD n t).canLay0 = true ∧ (trD n t).depth ≤ 2 * n + 1
  | 0, _ => ⟨rfl, Nat.zero_le _⟩
  | n + 1, .lot z => by
    refine ⟨?_, ?_⟩
    · show (PyData.canLay0 (.str "lot") && (true && true)) = true
      rw [lay_lot]; rfl
    · show max 0 (max 0 0) + 1 ≤ 2 * (n + 1) + 1
      omega
  | n + 1, .give ts => by
    obtain ⟨h1, h2⟩ := lay_map (l := ts) (f := trD n) fun x _ => trD_ok n x
    refine ⟨?_, ?_⟩
    · show (PyData.canLay0 (.str "give") && (PyData.canLayAll0 (ts.map (trD n)) && true)) = true
      rw [lay_give, h1]; rfl
    · show max 0 (max (PyData.depthAll (ts.map (trD n)) + 1) 0) + 1 ≤ 2 * (n + 1) + 1
      omega
theorem otD_ok (n : Nat) (o : Option Tr) : (otD n o).canLay0 = true ∧ (otD n o).depth ≤ 2 * n + 1 := by
  cases o with
  | none => exact ⟨rfl, Nat.zero_le _⟩
  | some t => exact trD_ok n t
theorem shp_trees {n : Nat} (hn : n ≤ 7) (l : List (Option Tr)) : SeqAt.shaped (.list (l.map (otD n))) = true := by
  obtain ⟨h1, h2⟩ := lay_map (l := l) (f := otD n) fun x _ => otD_ok n x
  show (PyData.canLayAll0 (l.map (otD n)) && decide (PyData.depthAll (l.map (otD n)) + 1 ≤ 64)) = true
  rw [h1, decide_eq_true (by omega)]; rfl
theorem none_in {n : Nat} {H : Hp} {S : Addr → Prop} {w : Nat} : ∀ {l : List (Option Tr)} {vs : List V}, All2 (fun o v => OtV H S w n o v) l vs → (l.map (otD n)).any (fun z => PyData.eqv z .none) = false → ∃ ts, ts.length = l.length ∧ All2 (TrV H S w n) ts vs
  | _, _, .nil, _ => ⟨[], rfl, .nil⟩
  | _, _, .cons (x := o) h hA, e => by
    have e : (PyData.eqv (otD n o) .none || (_ : List PyData).any (fun z => PyData.eqv z .none)) = false := e
    rw [Bool.or_eq_false_iff] at e
    obtain ⟨ts, h1, h2⟩ := none_in hA e.2
    cases o with
    | none => exact absurd (show PyData.eqv .none .none = false from e.1) (by decide)
    | some t => exact ⟨t :: ts, by rw [List.length_cons, List.length_cons, h1], .cons h h2⟩
theorem all2_up {H : Hp} {S S' : Addr → Prop} {w w' n m : Nat} {ts : List Tr} {vs : List V} (hS : ∀ a, S a → S' a) (hw : w ≤ w') (hn : n ≤ m) (h : All2 (TrV H S w n) ts vs) : All2 (TrV H S' w' m) ts vs := h.imp fun _ _ q => q.up hS hw hn
theorem OtV.xt {H H' : Hp} {S : Addr → Prop} {w n : Nat} {o : Option Tr} {v : V} (x : Xt H H') (h : OtV H S w n o v) : OtV H' S w n o v := by
  cases o with
  | none => exact h
  | some t => exact TrV.xt x h
theorem OtV.up {H : Hp} {S S' : Addr → Prop} {w n : Nat} {o : Option Tr} {v : V} (hS : ∀ a, S a → S' a) (h : OtV H S w n o v) : OtV H S' w n o v := by
  cases o with
  | none => exact h
  | some t => exact TrV.up hS (Nat.le_refl _) (Nat.le_refl _) h
theorem OtV.xd {H H' : Hp} {S : Addr → Prop} {d : Addr} {w n : Nat} {o : Option Tr} {v : V} (hd : Dr H d) (x : Xd d H H') (hS : ∀ a, S a → a ≠ d) (h : OtV H S w n o v) : OtV H' S w n o v := by
  cases o with
  | none => exact h
  | some t => exact TrV.xd hd x hS h
theorem OtV.put {H : Hp} {S : Addr → Prop} {D : Addr} {acc : List V} {o : HO} {w n : Nat} {t : Option Tr} {v : V} (hD : H D = some (.lst acc)) (hS : ∀ a, S a → a ≠ D) (h : OtV H S w n t v) : OtV (upd H D o) S w n t v := by
  cases t with
  | none => exact h
  | some t => exact TrV.put hD hS h

def seqT : List (Option Tr) → Option (List Tr)
  | [] => some []
  | none :: _ => none
  | some t :: l => (seqT l).map (t :: ·)
/-- the tree below a colouring -/
def treeN (ls : List (List Nat)) (k : Nat) : Nat → List Nat → Option Tr
  | 0, cs => (ones cs ls).head?.map fun j => .lot (j : Int)
  | f + 1, cs => match ones cs ls with
    | j :: _ => some (.lot (j : Int))
    | [] => (seqT ((List.range (giv cs k)).map fun c => treeN ls k f (cs ++ [c]))).map .give
theorem tree_lot {ls : List (List Nat)} {k f : Nat} {cs : List Nat} {j : Nat} {l : List Nat} (h : ones cs ls = j :: l) : treeN ls k f cs = some (.lot (j : Int)) := by
  cases f with
  | zero => rw [treeN, h]; rfl
  | succ f => unfold treeN; rw [h]
theorem tree_zero {ls : List (List Nat)} {k : Nat} {cs : List Nat} (h : ones cs ls = []) : treeN ls k 0 cs = none := by
  rw [treeN, h]
  rfl
theorem tree_succ {ls : List (List Nat)} {k f : Nat} {cs : List Nat} (h : ones cs ls = []) : treeN ls k (f + 1) cs = (seqT ((List.range (giv cs k)).map fun c => treeN ls k f (cs ++ [c]))).map .give := by
  rw [treeN, h]
theorem none_seq {n : Nat} {H : Hp} {S : Addr → Prop} {w : Nat} : ∀ {l : List (Option Tr)} {vs : List V}, All2 (fun o v => OtV H S w n o v) l vs →
    ((l.map (otD n)).any (fun z => PyData.eqv z .none) = false → ∃ ts, seqT l = some ts ∧ All2 (TrV H S w n) ts vs) ∧ ((l.map (otD n)).any (fun z => PyData.eqv z .none) = true → seqT l = none)
  | _, _, .nil => ⟨fun _ => ⟨[], rfl, .nil⟩, fun h => by cases h⟩
  | _, _, .cons (x := o) (l := l) h hA => by
    obtain ⟨ih1, ih2⟩ := none_seq hA
    have e0 : ((o :: l).map (otD n)).any (fun z => PyData.eqv z .none) = (PyData.eqv (otD n o) .none || (l.map (otD n)).any (fun z => PyData.eqv z .none)) := rfl
    rw [e0]
    cases o with
    | none => exact ⟨fun e => (by have : (true || (l.map (otD n)).any (fun z => PyData.eqv z .none)) = false := e; cases this), fun _ => rfl⟩
    | some t =>
      have e1 : PyData.eqv (otD n (some t)) .none = false := by
        cases n with
        | zero => exact False.elim (show False from h)
        | succ n => cases t <;> rfl
      rw [e1, Bool.false_or]
      refine ⟨fun e => ?_, fun e => ?_⟩
      · obtain ⟨ts, h1, h2⟩ := ih1 e
        refine ⟨t :: ts, ?_, .cons h h2⟩
        show (seqT l).map _ = _
        rw [h1]
        rfl
      · show (seqT l).map _ = _
        rw [ih2 e]
        rfl
def spTreeE (K : PySem.W.Frag) (f : Nat) : Sp := fun vs H Q _ => ∃ (q p : Addr) (ls : List (List Nat)) (us : List V) (cs : List Nat) (cnt k : Nat), vs = [.int (cnt : Int), .ref q, .int (k : Int), .ref p] ∧ SqL K H q us ∧ RowA H ls us ∧ Lts cnt ls ∧ k ≤ 4 ∧ H p = some (.lst (nI cs)) ∧ f + cs.length = cnt ∧
  ∀ H1 v o, o = treeN ls k f cs → Xt H H1 → OtV H1 (fun a => H a = none) 4 (f + 1) o v → Q v H1
def spTreeS (K : PySem.W.Frag) : Nat → Sp
  | 0 => fun _ _ _ _ => False
  | n + 1 => spTreeE K n
section
variable {P : Program} {w : World} {K : PySem.W.Frag} {mg : Str → Option Value} {base : Heap} {a : Ads}
theorem ok__law_tree1 (T : Txt K mg a) (B : TabT base mg a) (n : Nat) (G__law_of_one : FnOk P w K mg base CX0 2 a.f__law_of_one a.fd__law_of_one ["lots", "colours"] (spOnes K)) (G__law_given : FnOk P w K mg base CX0 1 a.f__law_given a.fd__law_given ["colours", "k"] (spGiven K)) (G__law_tree : FnOk P w K mg base CX0 (n + 2) a.f__law_tree a.fd__law_tree ["count", "lots", "k", "colours"] (spTreeS K n)) : FnOk P w K mg base CX0 (n + 3) a.f__law_tree a.fd__law_tree ["count", "lots", "k", "colours"] (spTreeE K n) := by
  refine T.F__law_tree.ok sc__law_tree (fun vs H Q E h => ?_) (fun A outer s H vs Q E hr h => ?_)
  · obtain ⟨q, p, ls, us, cs, cnt, k, rfl, _⟩ := h
    rfl
  · obtain ⟨q, p, ls, us, cs, cnt, k, rfl, hq, hR, hL, hk, hp, hf, kQ⟩ := h
    refine ⟨_, (pss_cons (ps_set (i := 4) sc__law_tree.nd rfl (.inl rfl) (pe_call G__law_of_one (hr.mono (by omega)) rfl T.g__law_of_one T.F__law_of_one.kp T.b__law_of_one .nil pass0 (pa_cons (pv 1) (pa_cons (pv 3) pa_nil))))
 (pss_cons (ps_if (pt_cmpR op_gt (pe_callB (Gx.call_len_seqK (K := K) rfl) rfl T.len (by decide +kernel) (pa_cons (pv 4) pa_nil)) pe_int (nomark _))
  (pss_one (ps_ret (pe_tup (pa_cons pe_str (pa_cons (pe_ix (Gx.ix_listK (K := K) rfl) (pv 4) pe_int (fun _ _ => rfl)) pa_nil)))))
  pss_nil)
 (pss_cons (ps_if (pt_cmpR op_eq (pe_callB (Gx.call_len_seqK (K := K) rfl) rfl T.len (by decide +kernel) (pa_cons (pv 3) pa_nil)) (pv 0) (nomark _))
  (pss_one (ps_ret pe_non))
  pss_nil)
 (pss_cons (ps_setLc (i := 5) (own := [("colour", 6)]) rfl sc__law_tree.nd rfl rfl (sw_true rfl rfl rfl (by decide +kernel)) (Gx.pi_listK (K := K) rfl (pe_call G__law_given (hr.mono (by omega)) rfl T.g__law_given T.F__law_given.kp T.b__law_given .nil pass0 (pa_cons (pv 3) (pa_cons (pv 2) pa_nil)))) (blkOk_by (own := [("colour", 6)]) (N := ["count", "lots", "k", "colours", "rows", "trees", "colour"]) (sc := defScope s__law_tree) (by decide +kernel)) (fun _ _ _ _ _ => (pg_name (i := 6) sc__law_tree.nd rfl (.inl rfl))) (fun _ _ _ _ _ => pts_nil) (fun _ _ _ _ _ => (pe_call G__law_tree (hr.mono (by omega)) rfl T.g__law_tree T.F__law_tree.kp T.b__law_tree .nil pass0 (pa_cons (pv 0) (pa_cons (pv 1) (pa_cons (pv 2) (pa_cons (pe_op op_cat (pv 3) (pe_lst (pa_cons (pv 6) pa_nil))) pa_nil)))))))
 (pss_cons (ps_if (pt_cmpR (Gx.op_inDK (K := K) rfl hr.u65) pe_non (pv 5) (by rfl))
  (pss_one (ps_ret pe_non))
  pss_nil)
 (pss_one (ps_ret (pe_tup (pa_cons pe_str (pa_cons (pv 5) pa_nil)))))))))), ?_⟩
    have zl : 200001 ≤ sizeLine := by decide
    have hc6 := hL.c6
    refine ⟨_, rfl, _, rfl, q, p, ls, us, cs, cnt, rfl, hq, hR, hL, .inl (.inl hp), fun H1 r x1 r0 hr1 => ?_⟩
    refine ⟨_, rfl, r, _, rfl, .inl (.inl (.inl hr1)), _, _, rfl, rfl, _, rfl, ite2 (fun hb => ?_) (fun hb => ?_)⟩
    · have h : 0 < (ones cs ls).length := by
        have h := of_decide_eq_true hb
        rw [nI_len] at h
        omega
      refine ⟨_, rfl, r, _, _, _, rfl, rfl, .inl (.inl hr1), atI_nI (x := 0) h, by show 2 ≤ sizeLine; decide, fun t ht => ?_⟩
      obtain ⟨j, l, hjl⟩ : ∃ j l, ones cs ls = j :: l := by
        cases ho : ones cs ls with
        | nil => rw [ho] at h; cases h
        | cons j l => exact ⟨j, l, rfl⟩
      have ej : (ones cs ls).getD 0 0 = j := by rw [hjl]; rfl
      exact kQ _ _ (some (.lot (((ones cs ls).getD 0 0 : Nat) : Int))) (by rw [ej, tree_lot hjl]) (x1.trans (Xt.new ht)) ⟨t, rfl, upd_same ..⟩
    · have hp1 := x1.lst hp
      have h0 : ones cs ls = [] := by
        refine List.length_eq_zero_iff.mp (Nat.le_zero.mp (Nat.le_of_not_lt fun z => hb (decide_eq_true ?_)))
        rw [nI_len]
        omega
      refine ⟨_, rfl, p, _, rfl, .inl (.inl (.inl hp1)), _, rfl, rfl, _, rfl, ?_⟩
      rw [dec_nat, nI_len]
      by_cases hcc : cs.length = cnt
      · rw [decide_eq_true hcc]
        have hn : n = 0 := by omega
        subst hn
        exact kQ _ _ none (tree_zero h0).symm x1 rfl
      · rw [decide_eq_false hcc]
        obtain ⟨f, rfl⟩ : ∃ f, n = f + 1 := ⟨n - 1, by omega⟩
        have gv3 : giv cs k ≤ 4 := Nat.le_trans (Nat.min_le_right ..) hk
        refine ⟨_, rfl, _, rfl, p, cs, k, rfl, .inl (.inl hp1), hk, fun gd hgd => ?_⟩
        have x2 : Xt H1 (upd H1 gd (.lst (nI (List.range (giv cs k))))) := Xt.new hgd
        have hg1 : upd H1 gd (.lst (nI (List.range (giv cs k)))) gd = some (.lst (nI (List.range (giv cs k)))) := upd_same ..
        generalize upd H1 gd (.lst (nI (List.range (giv cs k)))) = H2 at x2 hg1
        have x12 := x1.trans x2
        refine ⟨gd, rfl, ⟨_, .inl (.inl hg1)⟩, fun D hD => ?_⟩
        have hDH : H D = none := x12.free hD
        refine lcX (J := Itl K gd) (giv cs k) (fun i o => o = treeN ls k f (cs ++ [i])) (fun o H3 y => OtV H3 (fun b => H b = none ∧ b ≠ D) 4 (f + 1) o y) hD (by omega) (fun _ _ _ _ x h => h.xt x) (fun _ _ _ _ _ e h => h.put e fun _ h => h.2) (fun i H3 hi x => ⟨_, _, .inl (.inl (x.lst hg1)), by rw [List.getElem?_map, List.getElem?_range hi]; rfl⟩) (fun H3 x => ⟨_, .inl (.inl (x.lst hg1)), by rw [nI_len, List.length_range]; exact Nat.le_refl _⟩) (fun i v H3 H4 Y N hi x hD3 hy kY => ?_) (fun H3 ys l x hD3 hl hR3 hC => ?_)
        · obtain ⟨rfl, hv2⟩ := hy
          have hv3 := hv2 _ (.inl (.inl (x.lst hg1)))
          rw [List.getElem?_map, List.getElem?_range hi] at hv3
          have ev : v = .int ((i : Nat) : Int) := (Option.some.inj hv3).symm
          subst ev
          obtain ⟨acc, hD3⟩ := hD3
          have x13 := x12.trans x
          refine ⟨rfl, _, rfl, _, rfl, _, rfl, _, rfl, _, rfl, by show 1 ≤ sizeLine; decide, fun l3 hl3 => ⟨p, l3, _, _, rfl, rfl, (Xt.new hl3).lst (x13.lst hp), upd_same .., ?_, fun pc hpc => ?_⟩⟩
          · rw [nI_len]
            show cs.length + 1 ≤ sizeLine
            omega
          · have x4 := (Xt.new (o := .lst [.int (i : Int)]) hl3).trans (Xt.new (o := .lst (nI cs ++ [.int (i : Int)])) hpc)
            have x14 := x13.trans x4
            refine ⟨q, pc, ls, us, cs ++ [i], cnt, k, rfl, x14.sqL hq, hR.xt x14, hL, hk, ?_, by rw [List.length_append]; show f + (cs.length + 1) = cnt; omega, fun H5 v o eo x5 ho => ?_⟩
            · rw [upd_same]
              rw [show nI (cs ++ [i]) = nI cs ++ [.int (i : Int)] from List.map_append]
            · exact kY H5 v o (x4.trans x5) eo (ho.up fun b hb => ⟨x14.free hb, fun z => by rw [z, x4.lst hD3] at hb; cases hb⟩)
        · have el : l = (List.range (giv cs k)).map fun c => treeN ls k f (cs ++ [c]) := by
            refine List.ext_getElem? fun t => ?_
            by_cases ht : t < giv cs k
            · rw [List.getElem?_map, List.getElem?_range ht, List.getElem?_eq_getElem (by omega)]
              exact congrArg some (hR3 t _ (List.getElem?_eq_getElem (by omega)))
            · rw [List.getElem?_eq_none (by omega), List.getElem?_eq_none (by rw [List.length_map, List.length_range]; omega)]
          refine ⟨_, rfl, _, _, .non, .lst (.inl (.inl hD3)) (dpAll_of (hC.imp fun _ _ h => h.dp)), rfl, shp_trees (by omega) l, _, rfl, ite2 (fun hb2 => ?_) (fun hb2 => ?_)⟩
          · refine kQ _ _ none ?_ (x12.trans x) rfl
            rw [tree_succ h0, ← el, (none_seq hC).2 hb2]
            rfl
          · obtain ⟨ts, hts, hT2⟩ := (none_seq hC).1 (eq_false_of_ne_true hb2)
            refine ⟨_, rfl, by show 2 ≤ sizeLine; decide, fun t ht => ?_⟩
            have x4 : Xt H3 (upd H3 t (.tup [.str "give", .ref D])) := Xt.new ht
            have htl : ts.length = l.length := by rw [← hT2.len, hC.len]
            exact kQ _ _ (some (.give ts)) (by rw [tree_succ h0, ← el, hts]; rfl) ((x12.trans x).trans x4) ⟨t, D, ys, rfl, upd_same .., x4.lst hD3, hDH, by omega, hT2.imp fun _ _ q => (q.up (fun _ h => h.1) (Nat.le_refl _) (Nat.le_refl _)).xt x4⟩

theorem ok__law_tree (T : Txt K mg a) (B : TabT base mg a) (G__law_of_one : FnOk P w K mg base CX0 2 a.f__law_of_one a.fd__law_of_one ["lots", "colours"] (spOnes K)) (G__law_given : FnOk P w K mg base CX0 1 a.f__law_given a.fd__law_given ["colours", "k"] (spGiven K)) : ∀ n, FnOk P w K mg base CX0 (n + 3) a.f__law_tree a.fd__law_tree ["count", "lots", "k", "colours"] (spTreeE K n)
  | 0 => ok__law_tree1 T B 0 G__law_of_one G__law_given fn_none
  | n + 1 => ok__law_tree1 T B (n + 1) G__law_of_one G__law_given (ok__law_tree T B G__law_of_one G__law_given n)

end
end K40
set_option Elab.async false
set_option linter.all false
set_option maxRecDepth 100000
set_option maxHeartbeats 4000000
/-! trees that grow from the top: mathematics and place in memory -/
namespace K40
open PySem PySem.Spec PyProof.Rows L2 Gx Wq Lw Cq Ct
theorem seqT_none : ∀ {l : List (Option Tr)}, seqT l = none ↔ none ∈ l
  | [] => ⟨(fun h => by cases h), (fun h => by cases h)⟩
  | none :: l => ⟨fun _ => List.mem_cons_self .., fun _ => rfl⟩
  | some t :: l => by
    have e : seqT (some t :: l) = (seqT l).map (t :: ·) := rfl
    rw [e, Option.map_eq_none_iff, seqT_none, List.mem_cons]
    constructor
    · exact .inr
    · rintro (h | h)
      · cases h
      · exact h
theorem ones_pre {cs x : List Nat} {ls : List (List Nat)} (h : cs <+: x) (h0 : ones cs ls ≠ []) : ones x ls ≠ [] := by
  obtain ⟨j, hj⟩ := List.exists_mem_of_ne_nil _ h0
  obtain ⟨h1, h2⟩ := mem_ones.mp hj
  rw [List.prefix_iff_eq_take.mp h] at h2
  exact List.ne_nil_of_mem (mem_ones.mpr ⟨h1, mono_take h2⟩)
theorem tree_none {ls : List (List Nat)} {k : Nat} : ∀ (f : Nat) (cs : List Nat), treeN ls k f cs = none ↔ ∃ x ∈ bl k f cs, ones x ls = []
  | 0, cs => by
    cases ho : ones cs ls with
    | nil =>
      rw [tree_zero ho]
      exact ⟨fun _ => ⟨cs, List.mem_cons_self .., ho⟩, fun _ => rfl⟩
    | cons j l =>
      rw [tree_lot ho]
      constructor
      · intro h
        cases h
      · rintro ⟨x, hx, h⟩
        rw [List.mem_singleton.mp hx, ho] at h
        cases h
  | f + 1, cs => by
    cases ho : ones cs ls with
    | nil =>
      rw [tree_succ ho, Option.map_eq_none_iff, seqT_none, List.mem_map]
      constructor
      · rintro ⟨c, hc, h⟩
        obtain ⟨x, hx, h2⟩ := (tree_none f (cs ++ [c])).mp h
        exact ⟨x, List.mem_flatMap.mpr ⟨_, List.mem_map.mpr ⟨c, hc, rfl⟩, hx⟩, h2⟩
      · rintro ⟨x, hx, h2⟩
        obtain ⟨y, hy, hx⟩ := List.mem_flatMap.mp hx
        obtain ⟨c, hc, rfl⟩ := List.mem_map.mp hy
        exact ⟨c, hc, (tree_none f (cs ++ [c])).mpr ⟨x, hx, h2⟩⟩
    | cons j l =>
      rw [tree_lot ho]
      constructor
      · intro h
        cases h
      · rintro ⟨x, hx, h⟩
        exact absurd h (ones_pre (bl_pre _ _ _ hx) (by rw [ho]; simp))
theorem tree_due {ls : List (List Nat)} {k cnt : Nat} : treeN ls k cnt [] = none ↔ due ls cnt k ≠ none := by
  rw [tree_none, ← gl_eq]
  unfold due
  rw [Ne, List.find?_eq_none]
  constructor
  · rintro ⟨x, hx, h⟩ z
    exact z x hx (decide_eq_true h)
  · intro h
    refine Classical.byContradiction fun z => h fun x hx e => z ⟨x, hx, of_decide_eq_true e⟩
theorem gl_snoc {k c : Nat} {cs : List Nat} (h : cs ∈ gl k cs.length) (hc : c < giv cs k) : cs ++ [c] ∈ gl k (cs ++ [c]).length := by
  rw [List.length_append]
  exact List.mem_flatMap.mpr ⟨cs, h, List.mem_map.mpr ⟨c, List.mem_range.mpr hc, rfl⟩⟩
/-- the first of one colour, as the package looks for it -/
def focN (ls : List (List Nat)) (cs : List Nat) : Option Nat := (numsN ls ls.length (cs.length - 1)).find? fun j => mono cs (ls.getD j [])
def focV (ls : List (List Nat)) (cs : List Nat) : V := match focN ls cs with
  | none => .non
  | some j => .int (j : Int)
theorem focV_fine (ls : List (List Nat)) (cs : List Nat) : decide (focV ls cs = .non) = fineB ls cs := by
  unfold focV
  cases h : focN ls cs with
  | none =>
    unfold focN at h
    rw [List.find?_eq_none] at h
    have : fineB ls cs = true := by
      unfold fineB
      rw [List.all_eq_true]
      intro j hj
      rw [eq_false_of_ne_true (h j hj)]
      rfl
    rw [this]
    rfl
  | some j =>
    unfold focN at h
    have h1 := List.find?_some h
    have h2 := List.mem_of_find?_eq_some h
    have : fineB ls cs = false := by
      refine eq_false_of_ne_true fun z => ?_
      unfold fineB at z
      rw [List.all_eq_true] at z
      have h1 : mono cs (ls.getD j []) = true := h1
      have := z j h2
      rw [h1] at this
      cases this
    rw [this]
    rfl
theorem foc_ones {ls : List (List Nat)} {cnt c : Nat} {cs : List Nat} (hL : Lts cnt ls) (h0 : ones cs ls = []) : focN ls (cs ++ [c]) = (ones (cs ++ [c]) ls).head? := by
  have e : ones (cs ++ [c]) ls = (numsN ls ls.length ((cs ++ [c]).length - 1)).filter fun j => mono (cs ++ [c]) (ls.getD j []) := by
    unfold ones numsN
    rw [List.filter_filter]
    refine List.filter_congr fun j hj => ?_
    have hj := List.mem_range.mp hj
    have hm : ls.getD j [] ∈ ls := by
      rw [List.getD_eq_getElem?_getD, List.getElem?_eq_getElem hj]
      exact List.getElem_mem hj
    have hok := hL.ok _ hm
    have hno : mono cs (ls.getD j []) = false := by
      refine eq_false_of_ne_true fun z => ?_
      have : j ∈ ones cs ls := mem_ones.mpr ⟨hj, z⟩
      rw [h0] at this
      cases this
    generalize ls.getD j [] = r at *
    cases hmm : mono (cs ++ [c]) r with
    | false => rfl
    | true =>
      rw [Bool.true_and]
      symm
      rw [decide_eq_true_iff]
      rw [List.length_append, List.length_singleton, Nat.add_sub_cancel]
      have hll := (lotLast hok).2
      have hmem : lastN r ∈ r := by
        obtain ⟨l, y, rfl⟩ : ∃ l y, r = l ++ [y] := ⟨r.dropLast, r.getLast hok.ne, (List.dropLast_concat_getLast hok.ne).symm⟩
        unfold lastN
        rw [List.getLastD_concat]
        simp
      unfold mono at hmm
      rw [List.all_eq_true] at hmm
      have h1 := hmm _ hmem
      rw [Bool.and_eq_true, decide_eq_true_iff, List.length_append, List.length_singleton] at h1
      refine Classical.byContradiction fun hne => ?_
      have hlt : lastN r < cs.length := by omega
      have : mono cs r = true := by
        obtain ⟨y, tl, rfl, hy⟩ := hok.head
        unfold mono
        rw [List.all_eq_true]
        intro x hx
        have hx1 := hll x hx
        have hy1 := hll y (List.mem_cons_self ..)
        have h2 := hmm x hx
        rw [Bool.and_eq_true, decide_eq_true_iff, decide_eq_true_iff] at h2
        have e2 : ∀ z, z < cs.length → (cs ++ [c]).getD z 0 = cs.getD z 0 := fun z hz => by
          rw [List.getD_eq_getElem?_getD, List.getD_eq_getElem?_getD, List.getElem?_append_left hz]
        have h3 := h2.2
        rw [e2 x (by omega)] at h3
        have h3 : cs.getD x 0 = (cs ++ [c]).getD y 0 := h3
        rw [e2 y (by omega)] at h3
        rw [Bool.and_eq_true]
        exact ⟨decide_eq_true (by omega), decide_eq_true h3⟩
      rw [this] at hno
      cases hno
  rw [e, List.head?_filter]
  rfl
/-! ### a tree that is not whole yet: pend tells which lists still wait, and for which colouring -/
def PV (ls : List (List Nat)) (k : Nat) (H : Hp) (pend : Addr → Option (List Nat)) : Nat → List Nat → V → Prop
  | 0, cs, v => ∃ j l a, ones cs ls = j :: l ∧ v = .ref a ∧ H a = some (.tup [.str "lot", .int ((j : Nat) : Int)])
  | f + 1, cs, v => (∃ j l a, ones cs ls = j :: l ∧ v = .ref a ∧ H a = some (.tup [.str "lot", .int ((j : Nat) : Int)])) ∨
    (ones cs ls = [] ∧ ∃ a g, v = .ref a ∧ H a = some (.tup [.str "give", .ref g]) ∧ (pend g = some cs ∨ (pend g = none ∧ ∃ xs, H g = some (.lst xs) ∧ All2 (fun c v => PV ls k H pend f (cs ++ [c]) v) (List.range (giv cs k)) xs)))
def LV (ls : List (List Nat)) (k : Nat) (H : Hp) (pend : Addr → Option (List Nat)) (f : Nat) (cs : List Nat) (g : Addr) : Prop :=
  pend g = some cs ∨ (pend g = none ∧ ∃ xs, H g = some (.lst xs) ∧ All2 (fun c v => PV ls k H pend f (cs ++ [c]) v) (List.range (giv cs k)) xs)
theorem PV.mv {ls : List (List Nat)} {k : Nat} {H H' : Hp} {pend pend' : Addr → Option (List Nat)} (kt : ∀ a xs, H a = some (.tup xs) → H' a = some (.tup xs))
    (kl : ∀ g xs, pend g = none → H g = some (.lst xs) → H' g = some (.lst xs) ∧ pend' g = none) (kp : ∀ g cs, pend g = some cs → pend' g = some cs) : ∀ (f : Nat) (cs : List Nat) (v : V), PV ls k H pend f cs v → PV ls k H' pend' f cs v
  | 0, cs, v, ⟨j, l, a, e, e2, h⟩ => ⟨j, l, a, e, e2, kt _ _ h⟩
  | f + 1, cs, v, .inl ⟨j, l, a, e, e2, h⟩ => .inl ⟨j, l, a, e, e2, kt _ _ h⟩
  | f + 1, cs, v, .inr ⟨e, a, g, e2, h, .inl hp⟩ => .inr ⟨e, a, g, e2, kt _ _ h, .inl (kp _ _ hp)⟩
  | f + 1, cs, v, .inr ⟨e, a, g, e2, h, .inr ⟨hp, xs, hx, hA⟩⟩ => .inr ⟨e, a, g, e2, kt _ _ h, .inr ⟨(kl _ _ hp hx).2, xs, (kl _ _ hp hx).1, hA.imp fun c v q => PV.mv kt kl kp f _ v q⟩⟩
theorem LV.mv {ls : List (List Nat)} {k f : Nat} {cs : List Nat} {g : Addr} {H H' : Hp} {pend pend' : Addr → Option (List Nat)} (kt : ∀ a xs, H a = some (.tup xs) → H' a = some (.tup xs))
    (kl : ∀ g xs, pend g = none → H g = some (.lst xs) → H' g = some (.lst xs) ∧ pend' g = none) (kp : ∀ g cs, pend g = some cs → pend' g = some cs) (h : LV ls k H pend f cs g) : LV ls k H' pend' f cs g := by
  rcases h with h | ⟨hp, xs, hx, hA⟩
  · exact .inl (kp _ _ h)
  · exact .inr ⟨(kl _ _ hp hx).2, xs, (kl _ _ hp hx).1, hA.imp fun c v q => PV.mv kt kl kp f _ v q⟩
def drp (pend : Addr → Option (List Nat)) (g : Addr) : Addr → Option (List Nat) := fun l => if l = g then none else pend l
theorem drp_same (pend : Addr → Option (List Nat)) (g : Addr) : drp pend g g = none := if_pos rfl
theorem drp_ne {pend : Addr → Option (List Nat)} {g l : Addr} (h : l ≠ g) : drp pend g l = pend l := if_neg h
theorem drp_none {pend : Addr → Option (List Nat)} {g l : Addr} (h : pend l = none) : drp pend g l = none := by
  unfold drp
  split
  · rfl
  · exact h
theorem PV.fill {ls : List (List Nat)} {k N f0 : Nat} {cs0 : List Nat} {g : Addr} {xs : List V} {H : Hp} {pend : Addr → Option (List Nat)} (hg : pend g = some cs0) (hN : f0 + 1 + cs0.length = N) (hxs : H g = some (.lst xs))
    (hA : All2 (fun c v => PV ls k H pend f0 (cs0 ++ [c]) v) (List.range (giv cs0 k)) xs) : ∀ (f : Nat) (cs : List Nat) (v : V), f + cs.length = N → PV ls k H pend f cs v → PV ls k H (drp pend g) f cs v
  | 0, cs, v, _, h => h
  | f + 1, cs, v, _, .inl h => .inl h
  | f + 1, cs, v, hn, .inr ⟨e, a, g2, e2, h, .inl hp⟩ => by
    refine .inr ⟨e, a, g2, e2, h, ?_⟩
    by_cases hgg : g2 = g
    · subst hgg
      rw [hg] at hp
      cases hp
      have : f0 = f := by omega
      subst this
      exact .inr ⟨drp_same .., xs, hxs, hA.imp fun c v q => PV.fill hg hN hxs hA f0 _ v (by rw [List.length_append]; show f0 + (cs0.length + 1) = N; omega) q⟩
    · exact .inl (by rw [drp_ne hgg]; exact hp)
  | f + 1, cs, v, hn, .inr ⟨e, a, g2, e2, h, .inr ⟨hp, ys, hx, hA2⟩⟩ =>
    .inr ⟨e, a, g2, e2, h, .inr ⟨drp_none hp, ys, hx, hA2.imp fun c v q => PV.fill hg hN hxs hA f _ v (by rw [List.length_append]; show f + (cs.length + 1) = N; omega) q⟩⟩
theorem LV.fill {ls : List (List Nat)} {k N f0 f : Nat} {cs0 cs : List Nat} {g g2 : Addr} {xs : List V} {H : Hp} {pend : Addr → Option (List Nat)} (hg : pend g = some cs0) (hN : f0 + 1 + cs0.length = N) (hxs : H g = some (.lst xs))
    (hA : All2 (fun c v => PV ls k H pend f0 (cs0 ++ [c]) v) (List.range (giv cs0 k)) xs) (hn : f + 1 + cs.length = N) (h : LV ls k H pend f cs g2) : LV ls k H (drp pend g) f cs g2 := by
  rcases h with hp | ⟨hp, ys, hx, hA2⟩
  · by_cases hgg : g2 = g
    · subst hgg
      rw [hg] at hp
      cases hp
      have : f0 = f := by omega
      subst this
      exact .inr ⟨drp_same .., xs, hxs, hA.imp fun c v q => PV.fill hg hN hxs hA f0 _ v (by rw [List.length_append]; show f0 + (cs0.length + 1) = N; omega) q⟩
    · exact .inl (by rw [drp_ne hgg]; exact hp)
  · exact .inr ⟨drp_none hp, ys, hx, hA2.imp fun c v q => PV.fill hg hN hxs hA f _ v (by rw [List.length_append]; show f + (cs.length + 1) = N; omega) q⟩
theorem seq_all2 {α β : Type} {F : α → Option Tr} {R : Tr → β → Prop} {l : List α} {xs : List β} (h : All2 (fun c v => ∃ t, F c = some t ∧ R t v) l xs) : ∃ ts, seqT (l.map F) = some ts ∧ All2 R ts xs := by
  induction h with
  | nil => exact ⟨[], rfl, .nil⟩
  | cons e _ ih =>
    obtain ⟨t, e1, e2⟩ := e
    obtain ⟨ts, h1, h2⟩ := ih
    refine ⟨t :: ts, ?_, .cons e2 h2⟩
    rw [List.map_cons, e1]
    show (seqT _).map _ = _
    rw [h1]
    rfl
def dum : List Nat := List.replicate 7 0
theorem PV.done {ls : List (List Nat)} {k : Nat} {H : Hp} {pend : Addr → Option (List Nat)} (hk : k ≤ 4) (hp0 : ∀ l cs, pend l = some cs → cs = dum) : ∀ (f : Nat) (cs : List Nat) (v : V), f + cs.length ≤ 6 → PV ls k H pend f cs v → ∃ t, treeN ls k f cs = some t ∧ TrV H (fun _ => True) 4 (f + 1) t v
  | 0, cs, v, _, ⟨j, l, a, e, e2, h⟩ => ⟨_, tree_lot e, a, e2, h⟩
  | f + 1, cs, v, _, .inl ⟨j, l, a, e, e2, h⟩ => ⟨_, tree_lot e, a, e2, h⟩
  | f + 1, cs, v, hn, .inr ⟨e, a, g, e2, h, .inl hp⟩ => by
    rw [hp0 _ _ hp] at hn
    have : f + 1 + 7 ≤ 6 := hn
    omega
  | f + 1, cs, v, hn, .inr ⟨e, a, g, e2, h, .inr ⟨hp, xs, hx, hA⟩⟩ => by
    obtain ⟨ts, h1, h2⟩ := seq_all2 (F := fun c => treeN ls k f (cs ++ [c])) (R := TrV H (fun _ => True) 4 (f + 1)) (hA.imp fun c v q => PV.done hk hp0 f _ v (by rw [List.length_append]; show f + (cs.length + 1) ≤ 6; omega) q)
    refine ⟨.give ts, by rw [tree_succ e, h1]; rfl, a, g, xs, e2, h, hx, trivial, ?_, h2⟩
    have := h2.len
    have h3 := hA.len
    rw [List.length_range] at h3
    have : giv cs k ≤ 4 := Nat.le_trans (Nat.min_le_right ..) hk
    omega
theorem LV.done {ls : List (List Nat)} {k : Nat} {H : Hp} {pend : Addr → Option (List Nat)} (hk : k ≤ 4) (hp0 : ∀ l cs, pend l = some cs → cs = dum) {f : Nat} {g : Addr} (hn : f + 1 ≤ 6) (h0 : ones [] ls = []) (h : LV ls k H pend f [] g) : ∃ ts xs, treeN ls k (f + 1) [] = some (.give ts) ∧ H g = some (.lst xs) ∧ ts.length ≤ 4 ∧ All2 (TrV H (fun _ => True) 4 (f + 1)) ts xs := by
  rcases h with hp | ⟨hp, xs, hx, hA⟩
  · exact absurd (hp0 _ _ hp) (by decide)
  · obtain ⟨ts, h1, h2⟩ := seq_all2 (F := fun c => treeN ls k f ([] ++ [c])) (R := TrV H (fun _ => True) 4 (f + 1)) (hA.imp fun c v q => PV.done hk hp0 f _ v (by rw [List.length_append]; show f + (0 + 1) ≤ 6; omega) q)
    refine ⟨ts, xs, by rw [tree_succ h0, h1]; rfl, hx, ?_, h2⟩
    have := h2.len
    have h3 := hA.len
    rw [List.length_range] at h3
    have : giv [] k ≤ 4 := Nat.le_trans (Nat.min_le_right ..) hk
    omega
/-- what waits -/
def IW (ls : List (List Nat)) (k cnt : Nat) (H2 : Hp) (pend : Addr → Option (List Nat)) (H : Hp) (p : List Nat × Addr) (v : V) : Prop :=
  ∃ t c, v = .ref t ∧ H t = some (.tup [.ref c, .ref p.2]) ∧ H c = some (.lst (nI p.1)) ∧ pend c = none ∧ pend p.2 = some p.1 ∧ H p.2 = some (.lst []) ∧ H2 p.2 = none ∧ ones p.1 ls = [] ∧ p.1 ∈ gl k p.1.length ∧ p.1.length < cnt
theorem IW.mv {ls : List (List Nat)} {k cnt : Nat} {H2 H H' : Hp} {pend pend' : Addr → Option (List Nat)} {p : List Nat × Addr} {v : V} (kt : ∀ a xs, H a = some (.tup xs) → H' a = some (.tup xs))
    (kl : ∀ g xs, pend g = none → H g = some (.lst xs) → H' g = some (.lst xs) ∧ pend' g = none) (kp : ∀ cs, pend p.2 = some cs → H p.2 = some (.lst []) → pend' p.2 = some cs ∧ H' p.2 = some (.lst [])) (h : IW ls k cnt H2 pend H p v) : IW ls k cnt H2 pend' H' p v := by
  obtain ⟨t, c, e, h1, h2, h3, h4, h5, h6, h7⟩ := h
  exact ⟨t, c, e, kt _ _ h1, (kl _ _ h3 h2).1, (kl _ _ h3 h2).2, (kp _ h4 h5).1, (kp _ h4 h5).2, h6, h7⟩
theorem all2_impm {α β : Type} {r q : α → β → Prop} {l : List α} {m : List β} (h : All2 r l m) (f : ∀ x ∈ l, ∀ y, r x y → q x y) : All2 q l m := by
  induction h with
  | nil => exact .nil
  | cons e _ ih => exact .cons (f _ (List.mem_cons_self ..) _ e) (ih fun x hx => f x (List.mem_cons_of_mem _ hx))
theorem all2_snoc {α β : Type} {r : α → β → Prop} {st : List α} {vs : List β} (h : All2 r st vs) (h0 : vs ≠ []) : ∃ st' p vs' v, st = st' ++ [p] ∧ vs = vs' ++ [v] ∧ All2 r st' vs' ∧ r p v := by
  induction h with
  | nil => exact absurd rfl h0
  | @cons x y l m e h ih =>
    cases m with
    | nil =>
      cases h
      exact ⟨[], x, [], y, rfl, rfl, .nil, e⟩
    | cons y2 m =>
      obtain ⟨st', p, vs', v, e1, e2, h1, h2⟩ := ih (by simp)
      exact ⟨x :: st', p, y :: vs', v, by rw [e1]; rfl, by rw [e2]; rfl, .cons e h1, h2⟩
/-- all that is known while the tree grows -/
structure BT (ls : List (List Nat)) (k cnt F : Nat) (tg wl : Addr) (H2 H : Hp) (pend : Addr → Option (List Nat)) (st : List (List Nat × Addr)) (vs : List V) : Prop where
  xt : Xt H2 H
  hw : H wl = some (.lst vs)
  dm : pend wl = some dum
  it : All2 (IW ls k cnt H2 pend H) st vs
  lv : LV ls k H pend F [] tg
  nd : (st.map (·.2)).Nodup
  al : ∀ l cs, pend l = some cs → H l ≠ none
theorem BT.new {ls : List (List Nat)} {k cnt F : Nat} {tg wl : Addr} {H2 H H' : Hp} {pend : Addr → Option (List Nat)} {st : List (List Nat × Addr)} {vs : List V} (b : BT ls k cnt F tg wl H2 H pend st vs) (x : Xt H H') : BT ls k cnt F tg wl H2 H' pend st vs :=
  ⟨b.xt.trans x, x.lst b.hw, b.dm, b.it.imp fun _ _ h => h.mv (fun _ _ e => x.tup e) (fun _ _ h e => ⟨x.lst e, h⟩) (fun _ h e => ⟨h, x.lst e⟩), b.lv.mv (fun _ _ e => x.tup e) (fun _ _ h e => ⟨x.lst e, h⟩) (fun _ _ h => h), b.nd, fun l cs h z => b.al l cs h (x.free z)⟩
theorem upd_tup {H : Hp} {p : Addr} {xs : List V} {o : HO} (hp : H p = some (.lst xs)) {a : Addr} {ys : List V} (h : H a = some (.tup ys)) : upd H p o a = some (.tup ys) := by
  rw [upd_ne fun z => by rw [z, hp] at h; cases h]
  exact h
/-- the pile changes -/
theorem BT.pile {ls : List (List Nat)} {k cnt F : Nat} {tg wl : Addr} {H2 H : Hp} {pend : Addr → Option (List Nat)} {st st' : List (List Nat × Addr)} {vs vs' : List V} (b : BT ls k cnt F tg wl H2 H pend st vs) (hc : cnt ≤ 6) (hw : H2 wl = none) (hit : All2 (IW ls k cnt H2 pend H) st' vs') (hnd : (st'.map (·.2)).Nodup) : BT ls k cnt F tg wl H2 (upd H wl (.lst vs')) pend st' vs' := by
  have kl : ∀ g xs, pend g = none → H g = some (.lst xs) → upd H wl (.lst vs') g = some (.lst xs) ∧ pend g = none := fun g xs h e => by
    refine ⟨?_, h⟩
    rw [upd_ne fun z => by rw [z, b.dm] at h; cases h]
    exact e
  refine ⟨b.xt.mut hw, upd_same .., b.dm, hit.imp fun p v h => ?_, b.lv.mv (fun _ _ e => upd_tup b.hw e) kl (fun _ _ h => h), hnd, fun l cs h z => ?_⟩
  · have h7 := h
    obtain ⟨_, _, _, _, _, _, _, _, _, _, _, h9⟩ := h7
    refine h.mv (fun _ _ e => upd_tup b.hw e) kl (fun cs h e => ⟨h, ?_⟩)
    rw [upd_ne fun z => ?_]
    · exact e
    · obtain ⟨_, _, _, _, _, _, h4, _⟩ := ‹IW ls k cnt H2 pend H p v›
      rw [z, b.dm] at h4
      have e := Option.some.inj h4
      rw [← e] at h9
      have : 7 < cnt := h9
      omega
  · by_cases hl : l = wl
    · rw [hl, upd_same] at z
      cases z
    · rw [upd_ne hl] at z
      exact b.al l cs h z
/-- a list that waits grows -/
theorem BT.grow {ls : List (List Nat)} {k cnt F : Nat} {tg wl g : Addr} {H2 H : Hp} {pend : Addr → Option (List Nat)} {st : List (List Nat × Addr)} {vs xs ys : List V} {cs : List Nat} (b : BT ls k cnt F tg wl H2 H pend st vs) (hg : H g = some (.lst xs)) (hp : pend g = some cs) (hgw : g ≠ wl) (hg2 : H2 g = none) (hgs : g ∉ st.map (·.2)) : BT ls k cnt F tg wl H2 (upd H g (.lst ys)) pend st vs := by
  have kl : ∀ g' xs, pend g' = none → H g' = some (.lst xs) → upd H g (.lst ys) g' = some (.lst xs) ∧ pend g' = none := fun g' xs h e => by
    refine ⟨?_, h⟩
    rw [upd_ne fun z => by rw [z, hp] at h; cases h]
    exact e
  refine ⟨b.xt.mut hg2, by rw [upd_ne hgw.symm]; exact b.hw, b.dm, all2_impm b.it fun p hpm v h => h.mv (fun _ _ e => upd_tup hg e) kl (fun cs h e => ⟨h, ?_⟩), b.lv.mv (fun _ _ e => upd_tup hg e) kl (fun _ _ h => h), b.nd, fun l cs h z => ?_⟩
  · rw [upd_ne fun z => hgs (by rw [← z]; exact List.mem_map.mpr ⟨p, hpm, rfl⟩)]
    exact e
  · by_cases hl : l = g
    · rw [hl, upd_same] at z
      cases z
    · rw [upd_ne hl] at z
      exact b.al l cs h z
def addP (pend : Addr → Option (List Nat)) (b : Addr) (cs : List Nat) : Addr → Option (List Nat) := fun l => if l = b then some cs else pend l
theorem addP_same (pend : Addr → Option (List Nat)) (b : Addr) (cs : List Nat) : addP pend b cs b = some cs := if_pos rfl
theorem addP_ne {pend : Addr → Option (List Nat)} {b l : Addr} {cs : List Nat} (h : l ≠ b) : addP pend b cs l = pend l := if_neg h
/-- a new list waits -/
theorem BT.add {ls : List (List Nat)} {k cnt F : Nat} {tg wl b0 : Addr} {H2 H : Hp} {pend : Addr → Option (List Nat)} {st : List (List Nat × Addr)} {vs : List V} {cs : List Nat} {o : HO} (b : BT ls k cnt F tg wl H2 H pend st vs) (hb : H b0 = none) : BT ls k cnt F tg wl H2 (upd H b0 o) (addP pend b0 cs) st vs := by
  have x : Xt H (upd H b0 o) := Xt.new hb
  have kl : ∀ g xs, pend g = none → H g = some (.lst xs) → upd H b0 o g = some (.lst xs) ∧ addP pend b0 cs g = none := fun g xs h e => ⟨x.lst e, by rw [addP_ne fun z => by rw [z, hb] at e; cases e]; exact h⟩
  have kp : ∀ g cs', pend g = some cs' → addP pend b0 cs g = some cs' := fun g cs' h => by
    rw [addP_ne fun z => b.al _ _ h (by rw [z]; exact hb)]
    exact h
  refine ⟨b.xt.trans x, x.lst b.hw, kp _ _ b.dm, b.it.imp fun _ _ h => h.mv (fun _ _ e => x.tup e) kl (fun _ h e => ⟨kp _ _ h, x.lst e⟩), b.lv.mv (fun _ _ e => x.tup e) kl kp, b.nd, fun l cs' h z => ?_⟩
  by_cases hl : l = b0
  · rw [hl, upd_same] at z
    cases z
  · rw [addP_ne hl] at h
    exact b.al l cs' h (x.free z)
theorem PV.add {ls : List (List Nat)} {k f : Nat} {b0 : Addr} {H : Hp} {pend : Addr → Option (List Nat)} {cs cs' : List Nat} {v : V} {o : HO} (hb : H b0 = none) (al : ∀ l cs, pend l = some cs → H l ≠ none) (h : PV ls k H pend f cs' v) : PV ls k (upd H b0 o) (addP pend b0 cs) f cs' v := by
  have x : Xt H (upd H b0 o) := Xt.new hb
  exact h.mv (fun _ _ e => x.tup e) (fun g xs h e => ⟨x.lst e, by rw [addP_ne fun z => by rw [z, hb] at e; cases e]; exact h⟩) (fun g cs' h => by
    rw [addP_ne fun z => al _ _ h (by rw [z]; exact hb)]
    exact h)
/-- the list is whole -/
theorem BT.fill {ls : List (List Nat)} {k cnt F f0 : Nat} {tg wl g : Addr} {H2 H : Hp} {pend : Addr → Option (List Nat)} {st : List (List Nat × Addr)} {vs xs : List V} {cs0 : List Nat} (b : BT ls k cnt F tg wl H2 H pend st vs) (hF : F + 1 = cnt) (hg : pend g = some cs0) (hN : f0 + 1 + cs0.length = cnt) (hgw : g ≠ wl) (hgs : g ∉ st.map (·.2)) (hxs : H g = some (.lst xs))
    (hA : All2 (fun c v => PV ls k H pend f0 (cs0 ++ [c]) v) (List.range (giv cs0 k)) xs) : BT ls k cnt F tg wl H2 H (drp pend g) st vs := by
  refine ⟨b.xt, b.hw, by rw [drp_ne hgw.symm]; exact b.dm, all2_impm b.it fun p hpm v h => h.mv (fun _ _ e => e) (fun _ _ h e => ⟨e, drp_none h⟩) (fun cs h e => ⟨?_, e⟩), LV.fill hg hN hxs hA (by show F + 1 + 0 = cnt; omega) b.lv, b.nd, fun l cs h z => ?_⟩
  · rw [drp_ne fun z => hgs (by rw [← z]; exact List.mem_map.mpr ⟨p, hpm, rfl⟩)]
    exact h
  · unfold drp at h
    split at h
    · cases h
    · exact b.al l cs h z
def wgS (cnt : Nat) (st : List (List Nat × Addr)) : Nat := (st.map fun p => 5 ^ (cnt - p.1.length)).sum
theorem wgS_top (cnt : Nat) (st : List (List Nat × Addr)) (p : List Nat × Addr) : wgS cnt (st ++ [p]) = wgS cnt st + 5 ^ (cnt - p.1.length) := by
  unfold wgS
  rw [List.map_append, List.sum_append]
  rfl
theorem wgS_len (cnt : Nat) (st : List (List Nat × Addr)) : st.length ≤ wgS cnt st := by
  induction st with
  | nil => exact Nat.le_refl _
  | cons p st ih =>
    have h2 : 1 ≤ 5 ^ (cnt - p.1.length) := Nat.one_le_iff_ne_zero.mpr (by simp)
    have e : wgS cnt (p :: st) = 5 ^ (cnt - p.1.length) + wgS cnt st := by
      unfold wgS
      rw [List.map_cons, List.sum_cons]
    rw [e, List.length_cons]
    omega
end K40
set_option Elab.async false
set_option linter.all false
set_option maxRecDepth 100000
set_option maxHeartbeats 4000000
namespace K40
open PySem PySem.Spec PyProof.Rows L2 Gx Wq Lw Cq Ct

theorem find_at {α : Type} {p : α → Bool} : ∀ {l : List α} {i : Nat} {x : α}, l[i]? = some x → (∀ y ∈ l.take i, p y = false) → p x = true → l.find? p = some x
  | [], i, x, h, _, _ => by cases h
  | y :: l, 0, x, h, _, hp => by
    cases h
    exact List.find?_cons_of_pos hp
  | y :: l, i + 1, x, h, h0, hp => by
    have hy := h0 y (List.mem_cons_self ..)
    rw [List.find?_cons, hy]
    exact find_at h (fun z hz => h0 z (List.mem_cons_of_mem _ hz)) hp
def spFocS (K : PySem.W.Frag) (P : Addr) : Sp := fun vs H Q _ => ∃ (q e p : Addr) (ls : List (List Nat)) (us : List V) (cs : List Nat) (cnt : Nat), vs = [.ref q, .ref e, .ref p] ∧ SqL K H q us ∧ RowA H ls us ∧ Lts cnt ls ∧ NumT (fun _ => True) H e ls ls.length ∧ SqL K H p (nI cs) ∧ cs ≠ [] ∧ GxR.TabG H P ∧ ∀ H1 v, Xt H H1 → v = focV ls cs → Q v H1
def spCT (K : PySem.W.Frag) (a : Ads) : Sp := fun vs H Q _ => ∃ (q : Addr) (ls : List (List Nat)) (us : List V) (cnt k : Nat), vs = [.int (cnt : Int), .ref q, .int (k : Int)] ∧ SqL K H q us ∧ RowA H ls us ∧ Lts cnt ls ∧ cnt ≤ 6 ∧ k ≤ 4 ∧ TabL H a.P_least_colouring (lamQ a) ∧ GxR.TabG H a.P_first_of_one_colour ∧
  ∀ H1 v o, Xn a.P_least_colouring H H1 → TabL H1 a.P_least_colouring (lamQ a) → o = treeN ls k cnt [] → OtV H1 (fun _ => True) 4 (cnt + 1) o v → Q v H1
theorem PV.xt {ls : List (List Nat)} {k f : Nat} {H H' : Hp} {pe : Addr → Option (List Nat)} {cs : List Nat} {v : V} (x : Xt H H') (h : PV ls k H pe f cs v) : PV ls k H' pe f cs v := h.mv (fun _ _ e => x.tup e) (fun _ _ h e => ⟨x.lst e, h⟩) (fun _ _ h => h)
theorem PV.up {ls : List (List Nat)} {k f : Nat} {H : Hp} {pe : Addr → Option (List Nat)} {cs c0 : List Nat} {p : Addr} {xs : List V} {o : HO} {v : V} (hl : H p = some (.lst xs)) (hp : pe p = some c0) (h : PV ls k H pe f cs v) : PV ls k (upd H p o) pe f cs v :=
  h.mv (fun _ _ e => upd_tup hl e) (fun g ys h e => ⟨by rw [upd_ne fun z => by rw [z, hp] at h; cases h]; exact e, h⟩) (fun _ _ h => h)
theorem PV.lot {ls : List (List Nat)} {k : Nat} {H : Hp} {pe : Addr → Option (List Nat)} {cs l : List Nat} {j a : Nat} (e : ones cs ls = j :: l) (h : H a = some (.tup [.str "lot", .int ((j : Nat) : Int)])) : ∀ f, PV ls k H pe f cs (.ref a)
  | 0 => ⟨j, l, a, e, rfl, h⟩
  | f + 1 => .inl ⟨j, l, a, e, rfl, h⟩
theorem ones_nil {cnt : Nat} {ls : List (List Nat)} (hL : Lts cnt ls) : ones [] ls = [] := by
  rw [List.eq_nil_iff_forall_not_mem]
  intro j hj
  obtain ⟨h1, h2⟩ := mem_ones.mp hj
  have hm : ls.getD j [] ∈ ls := by
    rw [List.getD_eq_getElem?_getD, List.getElem?_eq_getElem h1]
    exact List.getElem_mem h1
  obtain ⟨y, tl, e, _⟩ := (hL.ok _ hm).head
  rw [e] at h2
  unfold mono at h2
  rw [List.all_eq_true] at h2
  have := h2 y (List.mem_cons_self ..)
  cases this
section
variable {P : Program} {w : World} {K : PySem.W.Frag} {mg : Str → Option Value} {base : Heap} {a : Ads}
theorem ok_focS (T : Txt K mg a) (B : TabT base mg a) : FnOk P w K mg base CX0 2 a.f_first_of_one_colour a.fd_first_of_one_colour ["lots", "ending", "colours"] (spFocS K a.P_first_of_one_colour) := by
  refine T.F_first_of_one_colour.ok sc_first_of_one_colour (fun vs H Q E h => ?_) (fun A outer s H vs Q E hr h => ?_)
  · obtain ⟨q, e, p, ls, us, cs, cnt, rfl, _⟩ := h
    rfl
  · obtain ⟨q, e, p, ls, us, cs, cnt, rfl, hq, hR, hL, hN, hs, hne, hT, kQ⟩ := h
    refine ⟨_, (pss_cons (ps_for PassesOwn.never rfl (Gx.pi_listK (K := K) rfl (pe_dget2 (hu_of hr) (pv 1) (pe_op op_sub (pe_callB (Gx.call_len_seqK (K := K) rfl) rfl T.len (by decide +kernel) (pa_cons (pv 2) pa_nil)) pe_int) (pe_lst pa_nil) ⟨rfl, rfl, rfl, rfl⟩)) (pg_name (i := 3) sc_first_of_one_colour.nd rfl (.inl rfl))
  (pss_one (ps_if (pt_val (Gx.pe_allG (own := ["thing"]) (caps := ["colours"]) (cix := [2]) hr rfl T.all B.tab_first_of_one_colour rfl (Gx.gxs_by (sc := defScope s_first_of_one_colour) (N := ["lots", "ending", "colours", "number"]) (by decide +kernel)) (Gx.pi_tupK (K := K) rfl (pe_ix (Gx.ix_listK (K := K) rfl) (pv 0) (pv 3) (fun _ _ => rfl))) (fun A s H C cl code bi fp pn hr' => (pg_name (i := 0) (Gx.ndw (own := ["thing"]) (caps := ["colours"]) (by decide +kernel)) rfl (.inl rfl))) (fun A s H C cl code bi fp pn hr' => pts_nil) (fun A s H C cl code bi fp pn hr' => (pe_cmpR op_eq (pe_ix (Gx.ix_listK (K := K) rfl) (pv 1) (pv 0) (fun _ _ => rfl)) (pe_ix (Gx.ix_listK (K := K) rfl) (pv 1) (pe_un un_neg pe_int) (fun _ _ => rfl)) (nomark _)))))
  (pss_one (ps_ret (pv 3)))
  pss_nil)))
 (pss_one (ps_ret pe_non))), ?_⟩
    have zl : 200001 ≤ sizeLine := by decide
    have hl8 := hL.n8
    have hpos : 0 < cs.length := List.length_pos_iff.mpr hne
    obtain ⟨kvs, k1, k2, k3, k4⟩ := hN.ex
    refine ⟨_, rfl, e, rfl, .inl ⟨_, .inl k1⟩, _, rfl, p, _, rfl, .inl hs, _, _, rfl, rfl, Nat.zero_le _, fun l0 hl0 => ?_⟩
    have z1 : Xt H (upd H l0 (.lst [])) := Xt.new hl0
    have h0 : upd H l0 (.lst []) l0 = some (.lst []) := upd_same ..
    generalize upd H l0 (.lst []) = H2 at z1 h0
    have ek : V.int (((nI cs).length : Int) - 1) = kV (Sum.inl ((cs.length - 1 : Nat) : Int) : Key) := by
      show V.int _ = V.int _
      rw [nI_len]
      congr 1
      omega
    refine ⟨valV kvs (Sum.inl ((cs.length - 1 : Nat) : Int) : Key), (show DGet H2 e (V.int (((nI cs).length : Int) - 1)) _ by rw [ek]; exact DGet.k (z1.keep _ _ k1 fun _ => nofun)), ?_⟩
    obtain ⟨g, eg, hg⟩ : ∃ g, (valV kvs (Sum.inl ((cs.length - 1 : Nat) : Int) : Key)).getD (.ref l0) = .ref g ∧ H2 g = some (.lst (nI (numsN ls ls.length (cs.length - 1)))) := by
      rcases k3 (cs.length - 1) with ⟨a1, a2⟩ | ⟨g, a1, _, a3⟩
      · exact ⟨l0, by rw [a1]; rfl, by rw [a2]; exact h0⟩
      · exact ⟨g, by rw [a1]; rfl, z1.lst a3⟩
    rw [eg]
    refine ⟨g, rfl, ⟨_, .inl (.inl hg)⟩, for_list (xs := nI (numsN ls ls.length (cs.length - 1))) (fun i σ H' => ∃ c3 : Option V, σ = [some (.ref q), some (.ref e), some (.ref p), c3] ∧ Xt H H' ∧ Xt H2 H' ∧ ∀ j ∈ (numsN ls ls.length (cs.length - 1)).take i, mono cs (ls.getD j []) = false)
      ⟨none, rfl, z1, Xt.refl _, fun j h => by cases h⟩ (fun i σ H' _ hh => ?_) (fun i v σ H' hv hh => ?_) (fun σ H' hh => ?_)⟩
    · obtain ⟨c3, rfl, x1, x2, hno⟩ := hh
      exact .inl (.inl (x2.lst hg))
    · obtain ⟨c3, rfl, x1, x2, hno⟩ := hh
      obtain ⟨j, hj, rfl⟩ := nI_at hv
      have hjm := List.mem_of_getElem? hj
      have hjn : j < ls.length ∧ lastN (ls.getD j []) = cs.length - 1 := by
        unfold numsN at hjm
        rw [List.mem_filter, List.mem_range] at hjm
        exact ⟨hjm.1, of_decide_eq_true hjm.2⟩
      obtain ⟨hjl, hjlast⟩ := hjn
      have hR' := hR.xt x1
      obtain ⟨v, hv2, hrv⟩ := hR'.get (List.getElem?_eq_getElem hjl)
      have ed : ls.getD j [] = ls[j] := by rw [List.getD_eq_getElem?_getD, List.getElem?_eq_getElem hjl]; rfl
      have hok := hL.ok ls[j] (List.getElem_mem hjl)
      have hll := (lotLast hok).2
      rw [← ed] at hrv hok hll
      generalize hrow : ls.getD j [] = r at *
      obtain ⟨t, rfl, ht⟩ := hrv
      obtain ⟨y, tl, rfl, hy⟩ := hok.head
      have hat : atI us (j : Int) = some (.ref t) := atI_nat hv2
      have hlt : ∀ x ∈ y :: tl, x < cs.length := fun x hx => by have := hll x hx; omega
      have hTz := x1.tabG hT
      refine ⟨_, rfl, _, rfl, q, us, _, _, rfl, rfl, x1.sqL hq, hat, t, rfl, ⟨_, .inl (.inl ht)⟩, hTz, fun H3 t3 => ?_⟩
      have x3 : Xt H' H3 := Xt.tabbed hTz t3
      -- the test asks for the last thing's colour
      have hmem : lastN (y :: tl) ∈ y :: tl := by
        have e : lastN (y :: tl) = (y :: tl).getLast (by simp) := by unfold lastN; rw [List.getLastD_eq_getLast?, List.getLast?_eq_some_getLast (by simp)]; rfl
        rw [e]
        exact List.getLast_mem _
      have hlastc : atI (nI cs) (-1) = some (.int ((cs.getD (cs.length - 1) 0 : Nat) : Int)) := by
        obtain ⟨l, z, rfl⟩ : ∃ l z, cs = l ++ [z] := ⟨cs.dropLast, cs.getLast hne, (List.dropLast_concat_getLast hne).symm⟩
        rw [show nI (l ++ [z]) = nI l ++ [.int (z : Int)] from List.map_append, atI_last]
        congr 2
        simp
      have em : ((nI (y :: tl)).all fun v => match v with | .int z => decide (cs.getD z.toNat 0 = cs.getD (cs.length - 1) 0) | _ => false) = mono cs (y :: tl) := by
        rw [List.all_map, Bool.eq_iff_iff]
        unfold mono
        rw [List.all_eq_true, List.all_eq_true]
        have el := hjlast
        constructor
        · intro h x hx
          have h1 := of_decide_eq_true (h x hx)
          have h2 := of_decide_eq_true (h y (List.mem_cons_self ..))
          have h1 : cs.getD x 0 = cs.getD (cs.length - 1) 0 := h1
          have h2 : cs.getD y 0 = cs.getD (cs.length - 1) 0 := h2
          rw [Bool.and_eq_true]
          exact ⟨decide_eq_true (hlt x hx), decide_eq_true (by show cs.getD x 0 = cs.getD y 0; rw [h1, h2])⟩
        · intro h x hx
          have h1 := (Bool.and_eq_true _ _ ▸ h x hx).2
          have h2 := (Bool.and_eq_true _ _ ▸ h _ hmem).2
          have h1 : cs.getD x 0 = cs.getD y 0 := of_decide_eq_true h1
          have h2 : cs.getD (lastN (y :: tl)) 0 = cs.getD y 0 := of_decide_eq_true h2
          rw [el] at h2
          exact decide_eq_true (by show cs.getD x 0 = _; rw [h1, h2])
      refine gx_all_tup (fun v => match v with | .int z => decide (cs.getD z.toNat 0 = cs.getD (cs.length - 1) 0) | _ => false) (.inl (.inl (x3.tup ht))) (fun v hv H4 N x4 kk => ?_) fun H4 x4 => ?_
      · obtain ⟨x, hx, rfl⟩ := List.mem_map.mp hv
        have hs4 := ((x1.trans x3).trans x4).sqL hs
        have kk' := kk _ (x4.trans (Xt.refl _))
        refine ⟨wk_set rfl, _, rfl, _, rfl, p, _, _, _, rfl, rfl, hs4, atI_nI (hlt x hx), _, rfl, _, rfl, p, _, _, _, rfl, rfl, hs4, hlastc, rfl, _, rfl, ?_⟩
        rw [dec_nat]
        exact kk'
      · have x14 := (x1.trans x3).trans x4
        rw [em]
        refine ⟨_, rfl, ite2 (fun hb => ?_) (fun hb => ?_)⟩
        · refine ⟨_, rfl, kQ _ _ x14 ?_⟩
          have ef : focN ls cs = some j := find_at hj hno (by rw [hrow]; exact hb)
          unfold focV
          rw [ef]
        · refine ⟨_, rfl, x14, x2.trans (x3.trans x4), fun j2 h2 => ?_⟩
          rw [List.take_add_one, hj] at h2
          rcases List.mem_append.mp h2 with h2 | h2
          · exact hno j2 h2
          · rw [List.mem_singleton.mp h2, hrow]
            exact eq_false_of_ne_true hb
    · obtain ⟨c3, rfl, x1, x2, hno⟩ := hh
      refine kQ _ _ x1 ?_
      rw [List.take_of_length_le (by rw [nI_len]; exact Nat.le_refl _)] at hno
      have ef : focN ls cs = none := List.find?_eq_none.mpr fun j hj => by rw [hno j hj]; exact Bool.false_ne_true
      unfold focV
      rw [ef]

theorem ok_colour_tree (T : Txt K mg a) (B : TabT base mg a) (G_least_colouring : FnOk P w K mg base CX0 5 a.f_least_colouring a.fd_least_colouring ["count", "lots", "k"] (spLeast K a)) (G_numbers_by_last : FnOk P w K mg base CX0 1 a.f_numbers_by_last a.fd_numbers_by_last ["lots"] (spNBL K)) (G_choices_for : FnOk P w K mg base CX0 1 a.f_choices_for a.fd_choices_for ["colours", "k"] (spChoices K)) (G_first_of_one_colour : FnOk P w K mg base CX0 2 a.f_first_of_one_colour a.fd_first_of_one_colour ["lots", "ending", "colours"] (spFocS K a.P_first_of_one_colour)) : FnOk P w K mg base CX0 6 a.f_colour_tree a.fd_colour_tree ["count", "lots", "k"] (spCT K a) := by
  refine T.F_colour_tree.ok sc_colour_tree (fun vs H Q E h => ?_) (fun A outer s H vs Q E hr h => ?_)
  · obtain ⟨q, ls, us, cnt, k, rfl, _⟩ := h
    rfl
  · obtain ⟨q, ls, us, cnt, k, rfl, hq, hR, hL, hc6, hk, hT, hG, kQ⟩ := h
    refine ⟨_, (pss_cons (ps_if (pt_cmpR op_notN (pe_call G_least_colouring (hr.mono (by decide)) rfl T.g_least_colouring T.F_least_colouring.kp T.b_least_colouring .nil pass0 (pa_cons (pv 0) (pa_cons (pv 1) (pa_cons (pv 2) pa_nil)))) pe_non (nomark _))
  (pss_one (ps_ret pe_non))
  pss_nil)
 (pss_cons (ps_set (i := 3) sc_colour_tree.nd rfl (.inl rfl) (pe_call G_numbers_by_last (hr.mono (by decide)) rfl T.g_numbers_by_last T.F_numbers_by_last.kp T.b_numbers_by_last .nil pass0 (pa_cons (pv 1) pa_nil)))
 (pss_cons (ps_set (i := 4) sc_colour_tree.nd rfl (.inl rfl) (pe_lst pa_nil))
 (pss_cons (ps_set (i := 5) sc_colour_tree.nd rfl (.inl rfl) (pe_lst (pa_cons (pe_tup (pa_cons (pe_lst pa_nil) (pa_cons (pv 4) pa_nil))) pa_nil)))
 (pss_cons (ps_while PassesOwn.never (Gx.pt_truthK (K := K) rfl (pv 5) (by intro _; rfl))
  (pss_cons (ps_asg (Gx.pe_bm0K (K := K) rfl PySem.F.plainAttrs_list PySem.F.slot_list_pop PySem.F.type_list_pop mt_pop (pv 5)) (Gx.pg_tupK (K := K) rfl (n := 2) rfl (pgs_cons (pg_name (i := 6) sc_colour_tree.nd rfl (.inl rfl)) (pgs_cons (pg_name (i := 7) sc_colour_tree.nd rfl (.inl rfl)) pgs_nil))))
 (pss_one (ps_for PassesOwn.never rfl (pi_range1 rfl T.range (pa_cons (pe_call G_choices_for (hr.mono (by decide)) rfl T.g_choices_for T.F_choices_for.kp T.b_choices_for .nil pass0 (pa_cons (pv 6) (pa_cons (pv 2) pa_nil))) pa_nil)) (pg_name (i := 8) sc_colour_tree.nd rfl (.inl rfl))
  (pss_cons (ps_set (i := 9) sc_colour_tree.nd rfl (.inl rfl) (pe_lst (Gx.pa_starK (K := K) rfl (pv 6) (pa_cons (pv 8) pa_nil))))
 (pss_cons (ps_set (i := 10) sc_colour_tree.nd rfl (.inl rfl) (pe_call G_first_of_one_colour (hr.mono (by decide)) rfl T.g_first_of_one_colour T.F_first_of_one_colour.kp T.b_first_of_one_colour .nil pass0 (pa_cons (pv 1) (pa_cons (pv 3) (pa_cons (pv 9) pa_nil)))))
 (pss_one (ps_if (pt_cmpR op_isN (pv 10) pe_non (nomark _))
  (pss_cons (ps_set (i := 11) sc_colour_tree.nd rfl (.inl rfl) (pe_lst pa_nil))
 (pss_cons (ps_expr (Gx.pe_bmK (K := K) rfl PySem.F.plainAttrs_list PySem.F.slot_list_append PySem.F.type_list_append mt_append (pv 7) (pa_cons (pe_tup (pa_cons pe_str (pa_cons (pv 11) pa_nil))) pa_nil)))
 (pss_one (ps_expr (Gx.pe_bmK (K := K) rfl PySem.F.plainAttrs_list PySem.F.slot_list_append PySem.F.type_list_append mt_append (pv 5) (pa_cons (pe_tup (pa_cons (pv 9) (pa_cons (pv 11) pa_nil))) pa_nil))))))
  (pss_one (ps_expr (Gx.pe_bmK (K := K) rfl PySem.F.plainAttrs_list PySem.F.slot_list_append PySem.F.type_list_append mt_append (pv 7) (pa_cons (pe_tup (pa_cons pe_str (pa_cons (pv 10) pa_nil))) pa_nil))))))))))))
 (pss_one (ps_ret (pe_tup (pa_cons pe_str (pa_cons (pv 4) pa_nil)))))))))), ?_⟩
    have zl : 200001 ≤ sizeLine := by decide
    have hP := tabL_has hT
    refine ⟨_, rfl, _, rfl, _, rfl, q, ls, us, cnt, k, rfl, hq, hR, hL, hc6, hk, hT, hG, fun H1 v xn T1 hv => ⟨rfl, _, rfl, ?_⟩⟩
    cases hd : due ls cnt k with
    | some cs =>
      rw [hd] at hv
      obtain ⟨p, rfl, _⟩ := hv
      rw [decide_eq_false (fun z => by cases z)]
      exact iteT (kQ _ _ none xn T1 (tree_due.mpr (by rw [hd]; simp)).symm rfl)
    | none =>
      rw [hd] at hv
      obtain rfl : v = .non := hv
      refine iteF ?_
      have h0 := ones_nil hL
      have hc0 : cnt ≠ 0 := fun z => by
        subst z
        unfold due at hd
        rw [List.find?_eq_none] at hd
        exact hd [] (List.mem_cons_self ..) (decide_eq_true h0)
      obtain ⟨F, hF⟩ : ∃ F, F + 1 = cnt := ⟨cnt - 1, by omega⟩
      have nodue : ∀ x ∈ gl k cnt, ones x ls ≠ [] := fun x hx z => by
        unfold due at hd
        rw [List.find?_eq_none] at hd
        exact hd x hx (decide_eq_true z)
      have hq1 := Xn.sqL xn hP hq
      have hR1 := RowA.xn xn hP hR
      have hG1 := Xn.tabG xn hP hG
      refine ⟨_, rfl, q, ls, us, cnt, rfl, hq1, hR1, hL, fun H2 e x2 e0 hN0 => ?_⟩
      have hq2 := x2.sqL hq1
      have hR2 := hR1.xt x2
      have hG2 := x2.tabG hG1
      have T2 := T1.xt x2
      have xn2 := xn.trans (Xn.of x2)
      refine ⟨Nat.zero_le _, fun tg htg => ⟨Nat.zero_le _, fun p0 hp0 => ⟨_, rfl, by show 2 ≤ sizeLine; decide, fun t0 ht0 => ⟨by show 1 ≤ sizeLine; decide, fun wl hwl => ?_⟩⟩⟩⟩
      have y1 : Xt H2 (upd H2 tg (.lst [])) := Xt.new htg
      have b1 : upd H2 tg (.lst []) tg = some (.lst []) := upd_same ..
      generalize upd H2 tg (.lst []) = H3 at y1 b1 hp0 ht0 hwl
      have y2 : Xt H3 (upd H3 p0 (.lst [])) := Xt.new hp0
      have b2 : upd H3 p0 (.lst []) p0 = some (.lst (nI [])) := upd_same ..
      generalize upd H3 p0 (.lst []) = H4 at y2 b2 ht0 hwl
      have y3 : Xt H4 (upd H4 t0 (.tup [.ref p0, .ref tg])) := Xt.new ht0
      have b3 : upd H4 t0 (.tup [.ref p0, .ref tg]) t0 = some (.tup [.ref p0, .ref tg]) := upd_same ..
      generalize upd H4 t0 (.tup [.ref p0, .ref tg]) = H5 at y3 b3 hwl
      have y4 : Xt H5 (upd H5 wl (.lst [.ref t0])) := Xt.new hwl
      have b4 : upd H5 wl (.lst [.ref t0]) wl = some (.lst [.ref t0]) := upd_same ..
      have wl2 : H2 wl = none := ((y1.trans y2).trans y3).free hwl
      have tgw : tg ≠ wl := fun z => by rw [← z, (y2.trans y3).lst b1] at hwl; cases hwl
      have p0w : p0 ≠ wl := fun z => by rw [← z, y3.lst b2] at hwl; cases hwl
      have p0t : p0 ≠ tg := fun z => by rw [z, b1] at hp0; cases hp0
      have B0 : BT ls k cnt F tg wl H2 (upd H5 wl (.lst [.ref t0])) (fun l => if l = tg then some [] else if l = wl then some dum else none) [([], tg)] [.ref t0] := by
        refine ⟨((y1.trans y2).trans y3).trans y4, b4, (if_neg tgw.symm).trans (if_pos rfl), .cons ⟨t0, p0, rfl, y4.tup b3, y4.lst (y3.lst b2), (if_neg p0t).trans (if_neg p0w), if_pos rfl, y4.lst ((y2.trans y3).lst b1), htg, h0, List.mem_cons_self .., by show 0 < cnt; omega⟩ .nil, .inl (if_pos rfl), by simp, fun l cs h z => ?_⟩
        by_cases h1 : l = tg
        · rw [h1, y4.lst ((y2.trans y3).lst b1)] at z
          cases z
        · rw [if_neg h1] at h
          by_cases h2 : l = wl
          · rw [h2, b4] at z
            cases z
          · rw [if_neg h2] at h
            cases h
      have B0m : ∀ l cs, (fun l => if l = tg then some [] else if l = wl then some dum else none) l = some cs → (cs, l) ∈ [(([] : List Nat), tg)] ∨ cs = dum := fun l cs h => by
        by_cases h1 : l = tg
        · left
          have h : (if l = tg then some ([] : List Nat) else if l = wl then some dum else none) = some cs := h
          rw [if_pos h1] at h
          cases h
          rw [h1]
          exact List.mem_cons_self ..
        · right
          have h : (if l = tg then some ([] : List Nat) else if l = wl then some dum else none) = some cs := h
          rw [if_neg h1] at h
          by_cases h2 : l = wl
          · rw [if_pos h2] at h
            exact (Option.some.inj h).symm
          · rw [if_neg h2] at h
            cases h
      generalize (fun l => if l = tg then some ([] : List Nat) else if l = wl then some dum else none) = pe0 at B0 B0m
      generalize upd H5 wl (.lst [.ref t0]) = H6 at B0
      clear y1 y2 y3 y4 b1 b2 b3 b4 hp0 ht0 hwl
      refine ⟨fun m σ H' => ∃ (st : List (List Nat × Addr)) (vs : List V) (pe : Addr → Option (List Nat)) (c6 c7 c8 c9 cA cB : Option V), σ = [some (.int (cnt : Int)), some (.ref q), some (.int (k : Int)), some (.ref e), some (.ref tg), some (.ref wl), c6, c7, c8, c9, cA, cB] ∧ BT ls k cnt F tg wl H2 H' pe st vs ∧ (∀ l cs, pe l = some cs → (cs, l) ∈ st ∨ cs = dum) ∧ m = wgS cnt st ∧ m ≤ 15625,
        ⟨_, [([], tg)], [.ref t0], pe0, none, none, none, none, none, none, rfl, B0, B0m, rfl, ?_⟩, fun m σ H' hh => ?_⟩
      · show 5 ^ (cnt - 0) + 0 ≤ 15625
        have : 5 ^ (cnt - 0) ≤ 5 ^ 6 := Nat.pow_le_pow_right (by decide) (by omega)
        omega
      obtain ⟨st, vs, pe, c6, c7, c8, c9, cA, cB, rfl, B, Bm, hm, hmb⟩ := hh
      have hw := B.hw
      cases hvs : vs with
      | nil =>
        subst hvs
        refine ⟨_, rfl, false, .inl ⟨_, .inl (.inl hw), rfl⟩, iteF ?_⟩
        have hit := B.it
        cases hit
        obtain ⟨ts, xs, e1, e2, e3, e4⟩ := LV.done hk (fun l cs h => (Bm l cs h).elim (fun z => by cases z) id) (by omega) h0 B.lv
        refine ⟨_, rfl, by show 2 ≤ sizeLine; decide, fun tt htt => ?_⟩
        have z1 : Xt H' (upd H' tt (.tup [.str "give", .ref tg])) := Xt.new htt
        rw [hF] at e1 e4
        refine kQ _ _ (some (.give ts)) ((xn2.trans (Xn.of B.xt)).trans (Xn.of z1)) ((T2.xt B.xt).xt z1) e1.symm ⟨tt, tg, xs, rfl, upd_same .., z1.lst e2, trivial, e3, e4.imp fun _ _ h => h.xt z1⟩
      | cons v0 vs0 =>
        obtain ⟨st', p, vs', v, rfl, e2, hA', hpv⟩ := all2_snoc B.it (by rw [hvs]; simp)
        clear hvs
        subst e2
        obtain ⟨cs, g⟩ := p
        refine ⟨_, rfl, true, .inl ⟨_, .inl (.inl hw), by cases vs' <;> rfl⟩, iteT ?_⟩
        refine ⟨_, fun _ _ h => h, ?_⟩
        refine ⟨_, rfl, .inl ⟨rfl, _, .inl (.inl hw)⟩, wl, _, v, rfl, rfl, hw, by simp, ?_⟩
        rw [List.dropLast_concat]
        have hnd := B.nd
        rw [List.map_append] at hnd
        have hnd2 := List.nodup_append.mp hnd
        have hgs : g ∉ st'.map (·.2) := fun z => hnd2.2.2 g z g (List.mem_cons_self ..) rfl
        have B1 := B.pile (vs' := vs') hc6 wl2 hA' hnd2.1
        obtain ⟨t, cp, rfl, g1, g2, g3, g4, g5, g6, g7, g8, g9⟩ := hpv
        have g1 : H' t = some (.tup [.ref cp, .ref g]) := g1
        have g2 : H' cp = some (.lst (nI cs)) := g2
        have g4 : pe g = some cs := g4
        have g5 : H' g = some (.lst []) := g5
        have g6 : H2 g = none := g6
        have g7 : ones cs ls = [] := g7
        have g8 : cs ∈ gl k cs.length := g8
        have g9 : cs.length < cnt := g9
        have cpw : cp ≠ wl := fun z => by rw [z, B.dm] at g3; cases g3
        have gw : g ≠ wl := fun z => by
          rw [z, B.dm] at g4
          have e := Option.some.inj g4
          rw [← e] at g9
          have : 7 < cnt := g9
          omega
        have hw1 := B1.hw
        have t1 : upd H' wl (.lst vs') t = some (.tup [.ref cp, .ref g]) := upd_tup hw g1
        have cp1 : upd H' wl (.lst vs') cp = some (.lst (nI cs)) := by rw [upd_ne cpw]; exact g2
        have gg1 : upd H' wl (.lst vs') g = some (.lst []) := by rw [upd_ne gw]; exact g5
        have Bm1 : ∀ l c, pe l = some c → (c, l) ∈ st' ∨ c = dum ∨ l = g := fun l c h => by
          rcases Bm l c h with z | z
          · rcases List.mem_append.mp z with z | z
            · exact .inl z
            · cases List.mem_singleton.mp z
              exact .inr (.inr rfl)
          · exact .inr (.inl z)
        clear B hA' Bm hw g1 g2 g5
        generalize upd H' wl (.lst vs') = H1' at *
        obtain ⟨f0, hN⟩ : ∃ f0, f0 + 1 + cs.length = cnt := ⟨cnt - cs.length - 1, by omega⟩
        have hg4 : giv cs k ≤ 4 := Nat.le_trans (Nat.min_le_right ..) hk
        have hmw : m = wgS cnt st' + 5 ^ (f0 + 1) := by
          rw [hm, wgS_top]
          show _ + 5 ^ (cnt - cs.length) = _
          rw [show cnt - cs.length = f0 + 1 by omega]
        have h5 : 5 ^ (f0 + 1) = 5 ^ f0 * 5 := Nat.pow_succ ..
        have h5p : 1 ≤ 5 ^ f0 := Nat.one_le_iff_ne_zero.mpr (by simp)
        refine ⟨t, _, rfl, .inl (.inl t1), rfl, _, _, rfl, _, _, rfl, rfl, ?_⟩
        refine ⟨_, rfl, _, rfl, cp, cs, k, rfl, .inl (.inl cp1), ((giv cs k : Nat) : Int), rfl, by omega, by omega, for_range (n := giv cs k) (fun i σ Hw => ∃ (st : List (List Nat × Addr)) (vs : List V) (pe : Addr → Option (List Nat)) (xs : List V) (c8 c9 cA cB : Option V), σ = [some (.int (cnt : Int)), some (.ref q), some (.int (k : Int)), some (.ref e), some (.ref tg), some (.ref wl), some (.ref cp), some (.ref g), c8, c9, cA, cB] ∧ BT ls k cnt F tg wl H2 Hw pe st vs ∧ (∀ l c, pe l = some c → (c, l) ∈ st ∨ c = dum ∨ l = g) ∧ pe g = some cs ∧ g ∉ st.map (·.2) ∧ Hw g = some (.lst xs) ∧
          All2 (fun c v => PV ls k Hw pe f0 (cs ++ [c]) v) (List.range i) xs ∧ Hw cp = some (.lst (nI cs)) ∧ pe cp = none ∧ wgS cnt st ≤ wgS cnt st' + i * 5 ^ f0)
          ⟨st', vs', pe, [], c8, c9, cA, cB, rfl, B1, Bm1, g4, hgs, gg1, .nil, cp1, g3, by omega⟩ (fun i σ Hw hi hh => ?_) (fun σ Hw hh => ?_)⟩
        rotate_left
        · obtain ⟨st, vs, pe, xs, c8, c9, cA, cB, rfl, B, Bm, hpg, hgs, hgx, hA, hcp, hpc, hwg⟩ := hh
          have h4 : giv cs k * 5 ^ f0 ≤ 4 * 5 ^ f0 := Nat.mul_le_mul_right _ hg4
          refine ⟨wgS cnt st, by omega, st, vs, drp pe g, _, _, _, _, _, _, rfl, B.fill hF hpg hN gw hgs hgx hA, fun l c h => ?_, rfl, by omega⟩
          by_cases hl : l = g
          · rw [hl, drp_same] at h
            cases h
          · rw [drp_ne hl] at h
            rcases Bm l c h with z | z | z
            · exact .inl z
            · exact .inr z
            · exact absurd z hl
        obtain ⟨st, vs, pe, xs, c8, c9, cA, cB, rfl, B, Bm, hpg, hgs, hgx, hA, hcp, hpc, hwg⟩ := hh
        have hi4 : i * 5 ^ f0 ≤ 4 * 5 ^ f0 := Nat.mul_le_mul_right _ (by omega)
        have hxl : xs.length = i := by rw [hA.len, List.length_range]
        have hvl : vs.length ≤ 15625 := by
          have h1 := wgS_len cnt st
          rw [B.it.len]
          omega
        refine ⟨_, rfl, cp, nI cs, rfl, .inr (.inl (.inl hcp)), _, rfl, by rw [List.length_append, nI_len]; show cs.length + 1 ≤ sizeLine; omega, fun mo hmo => ?_⟩
        have z1 : Xt Hw (upd Hw mo (.lst (nI cs ++ [.int (0 + (i : Int))]))) := Xt.new hmo
        have d1 : upd Hw mo (.lst (nI cs ++ [.int (0 + (i : Int))])) mo = some (.lst (nI (cs ++ [i]))) := by rw [upd_same, Int.zero_add, nI_snoc]
        have mop : pe mo = none := by
          cases hpm : pe mo with
          | none => rfl
          | some c => exact absurd hmo (B.al _ _ hpm)
        generalize upd Hw mo (.lst (nI cs ++ [.int (0 + (i : Int))])) = Ha at z1 d1
        have x2a := B.xt.trans z1
        refine ⟨_, rfl, _, rfl, _, rfl, q, e, mo, ls, us, cs ++ [i], cnt, rfl, x2a.sqL hq2, hR2.xt x2a, hL, hN0.xt x2a, .inl (.inl d1), by simp, x2a.tabG hG2, fun Hb v xb hv => ?_⟩
        subst hv
        have z2 := z1.trans xb
        have Bb := B.new z2
        have hgb := z2.lst hgx
        have hmob := xb.lst d1
        have hAb := hA.imp fun _ _ h => PV.xt z2 h
        have hcpb := z2.lst hcp
        have hfo := foc_ones (c := i) hL g7
        cases hon : ones (cs ++ [i]) ls with
        | nil =>
          rw [hon] at hfo
          have efv : focV ls (cs ++ [i]) = .non := by
            unfold focV
            rw [hfo]
            rfl
          rw [efv]
          refine ⟨_, rfl, rfl, _, rfl, iteT ?_⟩
          have hmg : cs ++ [i] ∈ gl k (cs ++ [i]).length := gl_snoc g8 hi
          obtain ⟨f1, rfl⟩ : ∃ f1, f0 = f1 + 1 := by
            cases f0 with
            | zero =>
              have e : (cs ++ [i]).length = cnt := by rw [List.length_append]; show cs.length + 1 = cnt; omega
              rw [e] at hmg
              exact absurd hon (nodue _ hmg)
            | succ f1 => exact ⟨f1, rfl⟩
          have hml : (cs ++ [i]).length < cnt := by rw [List.length_append]; show cs.length + 1 < cnt; omega
          refine ⟨Nat.zero_le _, fun be hbe => ?_⟩
          have z3 : Xt Hb (upd Hb be (.lst [])) := Xt.new hbe
          have B2 := Bb.add (cs := cs ++ [i]) (o := .lst []) hbe
          have hA2 := hAb.imp fun _ _ h => PV.add (cs := cs ++ [i]) (o := .lst []) hbe Bb.al h
          have be1 : upd Hb be (.lst []) be = some (.lst []) := upd_same ..
          have hgc := z3.lst hgb
          have hmoc := z3.lst hmob
          have hcpc := z3.lst hcpb
          have begn : g ≠ be := fun z => by rw [← z, hgb] at hbe; cases hbe
          have bemo : mo ≠ be := fun z => by rw [← z, hmob] at hbe; cases hbe
          have becp : cp ≠ be := fun z => by rw [← z, hcpb] at hbe; cases hbe
          have be2 : H2 be = none := Bb.xt.free hbe
          have bes : be ∉ st.map (·.2) := fun z => by
            obtain ⟨p, hp, e⟩ := List.mem_map.mp z
            obtain ⟨ix, hix⟩ := List.getElem?_of_mem hp
            obtain ⟨y, _, _, _, _, _, _, _, _, h5, _⟩ := Bb.it.get hix
            rw [e, hbe] at h5
            cases h5
          have hpg2 : addP pe be (cs ++ [i]) g = some cs := by rw [addP_ne begn]; exact hpg
          have hpc2 : addP pe be (cs ++ [i]) cp = none := by rw [addP_ne becp]; exact hpc
          have hpm2 : addP pe be (cs ++ [i]) mo = none := by rw [addP_ne bemo]; exact mop
          have hpb2 : addP pe be (cs ++ [i]) be = some (cs ++ [i]) := addP_same ..
          have Bm2 : ∀ l c, addP pe be (cs ++ [i]) l = some c → (c, l) ∈ st ++ [(cs ++ [i], be)] ∨ c = dum ∨ l = g := fun l c h => by
            by_cases hl : l = be
            · rw [hl, hpb2] at h
              cases h
              rw [hl]
              exact .inl (by simp)
            · rw [addP_ne hl] at h
              rcases Bm l c h with z | z
              · exact .inl (List.mem_append_left _ z)
              · exact .inr z
          generalize addP pe be (cs ++ [i]) = pe2 at B2 hA2 hpg2 hpc2 hpm2 hpb2 Bm2
          generalize upd Hb be (.lst []) = Hc at z3 B2 hA2 be1 hgc hmoc hcpc
          refine ⟨_, rfl, .inl ⟨rfl, _, .inl (.inl hgc)⟩, _, rfl, by show 2 ≤ sizeLine; decide, fun tn htn => ?_⟩
          have z4 : Xt Hc (upd Hc tn (.tup [.str "give", .ref be])) := Xt.new htn
          have d4 : upd Hc tn (.tup [.str "give", .ref be]) tn = some (.tup [.str "give", .ref be]) := upd_same ..
          generalize upd Hc tn (.tup [.str "give", .ref be]) = Hd at z4 d4
          have hgd := z4.lst hgc
          refine ⟨g, xs, _, rfl, rfl, hgd, by omega, ?_⟩
          have hgcp : cp ≠ g := fun z => by rw [z, hpg2] at hpc2; cases hpc2
          have hgmo : mo ≠ g := fun z => by rw [z, hpg2] at hpm2; cases hpm2
          have B3 := (B2.new z4).grow (ys := xs ++ [.ref tn]) hgd hpg2 gw g6 hgs
          have hA3 := hA2.imp fun _ _ h => PV.up (o := .lst (xs ++ [.ref tn])) hgd hpg2 (PV.xt z4 h)
          have d5 : upd Hd g (.lst (xs ++ [.ref tn])) tn = some (.tup [.str "give", .ref be]) := upd_tup hgd d4
          have g5 : upd Hd g (.lst (xs ++ [.ref tn])) g = some (.lst (xs ++ [.ref tn])) := upd_same ..
          have be5 : upd Hd g (.lst (xs ++ [.ref tn])) be = some (.lst []) := by rw [upd_ne begn.symm]; exact z4.lst be1
          have mo5 : upd Hd g (.lst (xs ++ [.ref tn])) mo = some (.lst (nI (cs ++ [i]))) := by rw [upd_ne hgmo]; exact z4.lst hmoc
          have cp5 : upd Hd g (.lst (xs ++ [.ref tn])) cp = some (.lst (nI cs)) := by rw [upd_ne hgcp]; exact z4.lst hcpc
          generalize upd Hd g (.lst (xs ++ [.ref tn])) = He at B3 hA3 d5 g5 be5 mo5 cp5
          refine ⟨_, rfl, .inl ⟨rfl, _, .inl (.inl B3.hw)⟩, _, rfl, _, rfl, by show 2 ≤ sizeLine; decide, fun t2 ht2 => ?_⟩
          have z6 : Xt He (upd He t2 (.tup [.ref mo, .ref be])) := Xt.new ht2
          have d6 : upd He t2 (.tup [.ref mo, .ref be]) t2 = some (.tup [.ref mo, .ref be]) := upd_same ..
          generalize upd He t2 (.tup [.ref mo, .ref be]) = Hf at z6 d6
          have B4 := B3.new z6
          have hit : IW ls k cnt H2 pe2 Hf (cs ++ [i], be) (.ref t2) := ⟨t2, mo, rfl, d6, z6.lst mo5, hpm2, hpb2, z6.lst be5, be2, hon, hmg, hml⟩
          have hnd3 : ((st ++ [(cs ++ [i], be)]).map (·.2)).Nodup := by
            rw [List.map_append]
            exact List.nodup_append.mpr ⟨B.nd, by simp, fun x hx y hy => fun z => by
              have z : x = be := z.trans (List.mem_singleton.mp hy)
              rw [z] at hx
              exact bes hx⟩
          have B5 := B4.pile hc6 wl2 (B4.it.snoc hit) hnd3
          have hwf := B4.hw
          have cpw2 : cp ≠ wl := fun z => by rw [z, B4.dm] at hpc2; cases hpc2
          refine ⟨wl, vs, _, rfl, rfl, hwf, by omega, st ++ [(cs ++ [i], be)], vs ++ [.ref t2], pe2, xs ++ [.ref tn], _, _, _, _, rfl, B5, Bm2, hpg2, fun z => ?_, by rw [upd_ne gw]; exact z6.lst g5, ?_, by rw [upd_ne cpw2]; exact z6.lst cp5, hpc2, ?_⟩
          · rw [List.map_append] at z
            rcases List.mem_append.mp z with z | z
            · exact hgs z
            · exact begn (List.mem_singleton.mp z)
          · rw [List.range_succ]
            exact (hA3.imp fun _ _ h => PV.up hwf B4.dm (PV.xt z6 h)).snoc (.inr ⟨hon, tn, be, rfl, upd_tup hwf (z6.tup d5), .inl hpb2⟩)
          · rw [wgS_top, Nat.succ_mul]
            show _ + 5 ^ (cnt - (cs ++ [i]).length) ≤ _
            rw [List.length_append, show cnt - (cs.length + [i].length) = f1 + 1 by show cnt - (cs.length + 1) = f1 + 1; omega]
            omega
        | cons j l =>
          rw [hon] at hfo
          have efv : focV ls (cs ++ [i]) = .int (j : Int) := by
            unfold focV
            rw [hfo]
            rfl
          rw [efv]
          refine ⟨_, rfl, rfl, _, rfl, iteF ?_⟩
          refine ⟨_, rfl, .inl ⟨rfl, _, .inl (.inl hgb)⟩, _, rfl, by show 2 ≤ sizeLine; decide, fun tn htn => ?_⟩
          have z3 : Xt Hb (upd Hb tn (.tup [.str "lot", .int (j : Int)])) := Xt.new htn
          have d3 : upd Hb tn (.tup [.str "lot", .int (j : Int)]) tn = some (.tup [.str "lot", .int (j : Int)]) := upd_same ..
          generalize upd Hb tn (.tup [.str "lot", .int (j : Int)]) = Hc at z3 d3
          have hgc := z3.lst hgb
          have hgcp : cp ≠ g := fun z => by rw [z, hpg] at hpc; cases hpc
          refine ⟨g, xs, _, rfl, rfl, hgc, by omega, st, vs, pe, xs ++ [.ref tn], _, _, _, _, rfl, (Bb.new z3).grow hgc hpg gw g6 hgs, Bm, hpg, hgs, upd_same .., ?_, by rw [upd_ne hgcp]; exact z3.lst hcpb, hpc, ?_⟩
          · rw [List.range_succ]
            exact (hAb.imp fun _ _ h => PV.up hgc hpg (PV.xt z3 h)).snoc (PV.lot hon (upd_tup hgc d3) f0)
          · rw [Nat.succ_mul]
            omega


end
end K40
set_option Elab.async false
set_option linter.all false
set_option maxRecDepth 100000
set_option maxHeartbeats 2000000
/-! is, is not between two bools -/
namespace Gx
open PySem PySem.Spec PyProof.Rows L2
variable {X : Cx}
theorem bool_beq (a b : Bool) : (Value.bool a == Value.bool b) = (a == b) := by cases a <;> cases b <;> first | rfl | decide +kernel
theorem op_notBl : OpR X (compareOp .IsNot) (fun x y H Q => ∃ a b : Bool, x = .bl a ∧ y = .bl b ∧ Q (.bl (a != b)) H) := by
  intro pins s σ H x y v u Q I rx ry h
  obtain ⟨a, b, rfl, rfl, q⟩ := h
  obtain rfl : v = .bool a := rx
  obtain rfl : u = .bool b := ry
  exact wpAny_pure ⟨.bl (a != b), H, I, congrArg (fun z => Value.bool !z) (bool_beq a b), q⟩
theorem op_isBl : OpR X (compareOp .Is) (fun x y H Q => ∃ a b : Bool, x = .bl a ∧ y = .bl b ∧ Q (.bl (a == b)) H) := by
  intro pins s σ H x y v u Q I rx ry h
  obtain ⟨a, b, rfl, rfl, q⟩ := h
  obtain rfl : v = .bool a := rx
  obtain rfl : u = .bool b := ry
  exact wpAny_pure ⟨.bl (a == b), H, I, congrArg Value.bool (bool_beq a b), q⟩
end Gx
set_option Elab.async false
set_option linter.all false
set_option maxRecDepth 100000
set_option maxHeartbeats 4000000
namespace K40
open PySem PySem.Spec PyProof.Rows L2 Gx Wq Lw Cq Ct
def spUp (b : Nat) (sp : Nat → Sp) : Sp := fun vs H Q E => ∃ n, n ≤ b ∧ sp n vs H Q E
theorem fn_up {P : Program} {w : World} {K : PySem.W.Frag} {mg : Str → Option Value} {base : Heap} {b k : Nat} {f : Addr} {fd : FuncData} {ps : List Str} {sp : Nat → Sp} (F : ∀ n, n ≤ b → FnOk P w K mg base CX0 k f fd ps (sp n)) : FnOk P w K mg base CX0 k f fd ps (spUp b sp) :=
  ⟨fun vs H Q E ⟨n, hn, h⟩ => (F n hn).len _ _ _ _ h, fun A outer s H args us vs Q E hr e0 hb hv ⟨n, hn, h⟩ => (F n hn).run A outer s H args us vs Q E hr e0 hb hv h⟩

theorem ok_same {P : Program} {w : World} {K : PySem.W.Frag} {mg : Str → Option Value} {base : Heap} {a : Ads} (T : Txt K mg a) : ∀ n, FnOk P w K mg base CX0 (n + 1) a.f__law_same a.fd__law_same ["value", "due"] (spSame n)
  | 0 => ok_same1 (P := P) (w := w) (base := base) T 0 fn_none
  | n + 1 => ok_same1 T (n + 1) (ok_same T n)
theorem same_tree {H : Hp} {S S' : Addr → Prop} {w w' : Nat} (hw : w ≤ 1000000) : ∀ (n : Nat) (t : Tr) (v u : V), TrV H S w n t v → TrV H S' w' n t u → SameD H (2 * n + 1) v u
  | 0, _, _, _, h, _ => h.elim
  | n + 1, .lot z, _, _, ⟨a, e, h⟩, ⟨b, e2, h2⟩ => by
    subst e e2
    refine .inr ⟨a, b, _, _, rfl, rfl, .inl ⟨h, h2⟩, rfl, by show 2 ≤ 1000000; decide, fun i x y hx hy => ?_⟩
    rw [hx] at hy
    cases hy
    match i with
    | 0 => cases hx; exact SameD.leaf rfl _
    | 1 => cases hx; exact SameD.leaf rfl _
    | i + 2 => cases hx
  | n + 1, .give ts, _, _, ⟨a, l, xs, e, h1, h2, _, h3, h4⟩, ⟨b, m, ys, e', k1, k2, _, k3, k4⟩ => by
    subst e e'
    refine .inr ⟨a, b, _, _, rfl, rfl, .inl ⟨h1, k1⟩, rfl, by show 2 ≤ 1000000; decide, fun i x y hx hy => ?_⟩
    match i with
    | 0 => cases hx; cases hy; exact SameD.leaf rfl _
    | 1 =>
      cases hx
      cases hy
      refine .inr ⟨l, m, xs, ys, rfl, rfl, .inr ⟨h2, k2⟩, by rw [h4.len, k4.len], by rw [h4.len]; omega, fun i x y hx hy => ?_⟩
      obtain ⟨t1, e1, r1⟩ := h4.at hx
      obtain ⟨t2, e2, r2⟩ := k4.at hy
      rw [e1] at e2
      cases e2
      exact same_tree hw n t1 x y r1 r2
    | i + 2 => cases hx
theorem same_ot {H : Hp} {S S' : Addr → Prop} {o : Option Tr} {v u : V} {n : Nat} (hn : n ≤ 7) (h1 : OtV H S 4 n o v) (h2 : OtV H S' 4 n o u) : SameD H 15 v u := by
  cases o with
  | none =>
    have h1 : v = .non := h1
    have h2 : u = .non := h2
    rw [h1, h2]
    exact SameD.leaf rfl 15
  | some t => exact same_tree (by decide) 7 t v u (TrV.up (fun _ h => h) (Nat.le_refl _) hn h1) (TrV.up (fun _ h => h) (Nat.le_refl _) hn h2)
theorem seq_len : ∀ {l : List (Option Tr)} {ts : List Tr}, seqT l = some ts → l = ts.map some
  | [], ts, h => by cases h; rfl
  | none :: l, ts, h => by cases h
  | some t :: l, ts, h => by
    have h : (seqT l).map (t :: ·) = some ts := h
    obtain ⟨us, h1, rfl⟩ := Option.map_eq_some_iff.mp h
    rw [seq_len h1]
    rfl
theorem jd_tree {ls : List (List Nat)} {k : Nat} : ∀ (f : Nat) (cs : List Nat) (t : Tr), treeN ls k f cs = some t → jd ls k f cs t = true := by
  have lot : ∀ (cs : List Nat) (j : Nat) (l : List Nat), ones cs ls = j :: l → lotB ls cs (j : Int) = true := fun cs j l h => by
    obtain ⟨h1, h2⟩ := mem_ones.mp (h ▸ List.mem_cons_self .. : j ∈ ones cs ls)
    unfold lotB
    rw [Bool.and_eq_true, Bool.and_eq_true]
    exact ⟨⟨decide_eq_true (by omega), decide_eq_true (by omega)⟩, h2⟩
  intro f
  induction f with
  | zero =>
    intro cs t h
    cases ho : ones cs ls with
    | nil => rw [tree_zero ho] at h; cases h
    | cons j l =>
      rw [tree_lot ho] at h
      cases h
      exact lot cs j l ho
  | succ f ih =>
    intro cs t h
    cases ho : ones cs ls with
    | cons j l =>
      rw [tree_lot ho] at h
      cases h
      exact lot cs j l ho
    | nil =>
      rw [tree_succ ho] at h
      obtain ⟨ts, h1, rfl⟩ := Option.map_eq_some_iff.mp h
      have h2 := seq_len h1
      have hl : ts.length = giv cs k := by
        have := congrArg List.length h2
        rw [List.length_map, List.length_map, List.length_range] at this
        exact this.symm
      show (decide (ts.length = giv cs k) && (List.range ts.length).all fun i => jd ls k f (cs ++ [i]) (ts.getD i (.lot 0))) = true
      rw [Bool.and_eq_true, decide_eq_true_iff, List.all_eq_true]
      refine ⟨hl, fun i hi => ih _ _ ?_⟩
      have hi := List.mem_range.mp hi
      have e := congrArg (fun l => l[i]?) h2
      have e : ((List.range (giv cs k)).map fun c => treeN ls k f (cs ++ [c]))[i]? = (ts.map some)[i]? := e
      rw [List.getElem?_map, List.getElem?_map, List.getElem?_range (by omega), List.getElem?_eq_getElem hi] at e
      rw [List.getD_eq_getElem?_getD, List.getElem?_eq_getElem hi]
      exact Option.some.inj e
def spLaw40 (K : PySem.W.Frag) (a : Ads) : Sp := fun vs H Q _ => ∃ (q : Addr) (ns : List Int), vs = [.ref q] ∧ SqL K H q (ns.map V.int) ∧ ns.length ≤ 1000 ∧ TabL H a.P_least_colouring (lamQ a) ∧ GxR.TabG H a.P_first_of_one_colour ∧ GxR.TabG H a.P_is_of_one_colour ∧ ∀ H1, (∃ ps, H1 a.P_least_colouring = some (TabO a.P_least_colouring ps)) → Q (.bl true) H1
section
variable {P : Program} {w : World} {K : PySem.W.Frag} {mg : Str → Option Value} {base : Heap} {a : Ads}
theorem ok_law (T : Txt K mg a) (B : TabT base mg a) (G__law_draws : FnOk P w K mg base CX0 1 a.f__law_draws a.fd__law_draws ["script"] (spDraws K)) (G__law_take : FnOk P w K mg base CX0 1 a.f__law_take a.fd__law_take ["draws", "bound"] (spTake)) (G__law_lots : FnOk P w K mg base CX0 2 a.f__law_lots a.fd__law_lots ["draws", "count"] (spLots)) (G__law_colouring : FnOk P w K mg base CX0 3 a.f__law_colouring a.fd__law_colouring ["count", "lots", "k"] (spColouring K)) (G_least_colouring : FnOk P w K mg base CX0 5 a.f_least_colouring a.fd_least_colouring ["count", "lots", "k"] (spLeast K a)) (G_colour_tree : FnOk P w K mg base CX0 6 a.f_colour_tree a.fd_colour_tree ["count", "lots", "k"] (spCT K a)) (G_judge_colours : FnOk P w K mg base CX0 3 a.f_judge_colours a.fd_judge_colours ["count", "lots", "k", "tree"] (spJudge K a)) (G__law_tree : FnOk P w K mg base CX0 9 a.f__law_tree a.fd__law_tree ["count", "lots", "k", "colours"] (spUp 6 (spTreeE K))) (G__law_same : FnOk P w K mg base CX0 16 a.f__law_same a.fd__law_same ["value", "due"] (spSame 15)) : FnOk P w K mg base CX0 20 a.f_law a.fd_law ["script"] (spLaw40 K a) := by
  refine T.F_law.ok sc_law (fun vs H Q E h => ?_) (fun A outer s H vs Q E hr h => ?_)
  · obtain ⟨q, ns, rfl, _⟩ := h
    rfl
  · obtain ⟨q, ns, rfl, hs, hn, hT, hG, hG', kQ⟩ := h
    refine ⟨_, (pss_cons (ps_set (i := 1) sc_law.nd rfl (.inl rfl) (pe_call G__law_draws (hr.mono (by decide)) rfl T.g__law_draws T.F__law_draws.kp T.b__law_draws .nil pass0 (pa_cons (pv 0) pa_nil)))
 (pss_cons (ps_set (i := 2) sc_law.nd rfl (.inl rfl) (pe_call G__law_take (hr.mono (by decide)) rfl T.g__law_take T.F__law_take.kp T.b__law_take .nil pass0 (pa_cons (pv 1) (pa_cons pe_int pa_nil))))
 (pss_cons (ps_set (i := 3) sc_law.nd rfl (.inl rfl) (pe_call G__law_lots (hr.mono (by decide)) rfl T.g__law_lots T.F__law_lots.kp T.b__law_lots .nil pass0 (pa_cons (pv 1) (pa_cons (pv 2) pa_nil))))
 (pss_cons (ps_set (i := 4) sc_law.nd rfl (.inl rfl) (pe_call G__law_take (hr.mono (by decide)) rfl T.g__law_take T.F__law_take.kp T.b__law_take .nil pass0 (pa_cons (pv 1) (pa_cons pe_int pa_nil))))
 (pss_cons (ps_for PassesOwn.never rfl (Gx.pi_listK (K := K) rfl (pe_lst (pa_cons (pv 4) (pa_cons (pe_op op_mod (pe_op op_add (pv 4) pe_int) pe_int) pa_nil)))) (pg_name (i := 5) sc_law.nd rfl (.inl rfl))
  (pss_cons (ps_set (i := 6) sc_law.nd rfl (.inl rfl) (pe_call G__law_tree (hr.mono (by decide)) rfl T.g__law_tree T.F__law_tree.kp T.b__law_tree .nil pass0 (pa_cons (pv 2) (pa_cons (pv 3) (pa_cons (pv 5) (pa_cons (pe_lst pa_nil) pa_nil))))))
 (pss_cons (ps_set (i := 7) sc_law.nd rfl (.inl rfl) (pe_call G_colour_tree (hr.mono (by decide)) rfl T.g_colour_tree T.F_colour_tree.kp T.b_colour_tree .nil pass0 (pa_cons (pv 2) (pa_cons (pe_callTy (Gx.call_list_ofK (K := K) rfl) rfl T.list (by decide +kernel) (pa_cons (pv 3) pa_nil)) (pa_cons (pv 5) pa_nil)))))
 (pss_cons (ps_if (pt_not (pt_val (pe_call G__law_same (hr.mono (by decide)) rfl T.g__law_same T.F__law_same.kp T.b__law_same .nil pass0 (pa_cons (pv 7) (pa_cons (pv 6) pa_nil)))))
  (pss_one (ps_ret pe_bl))
  pss_nil)
 (pss_cons (ps_if (pt_cmpR op_ne (pe_cmpR op_isN (pv 7) pe_non (nomark _)) (pe_cmpR op_notN (pe_call G__law_colouring (hr.mono (by decide)) rfl T.g__law_colouring T.F__law_colouring.kp T.b__law_colouring .nil pass0 (pa_cons (pv 2) (pa_cons (pv 3) (pa_cons (pv 5) pa_nil)))) pe_non (nomark _)) (nomark _))
  (pss_one (ps_ret pe_bl))
  pss_nil)
 (pss_cons (ps_if (pt_cmpR op_eq (pe_cmpR op_isN (pv 7) pe_non (nomark _)) (pe_cmpR op_isN (pe_call G_least_colouring (hr.mono (by decide)) rfl T.g_least_colouring T.F_least_colouring.kp T.b_least_colouring .nil pass0 (pa_cons (pv 2) (pa_cons (pe_callTy (Gx.call_list_ofK (K := K) rfl) rfl T.list (by decide +kernel) (pa_cons (pv 3) pa_nil)) (pa_cons (pv 5) pa_nil)))) pe_non (nomark _)) (nomark _))
  (pss_one (ps_ret pe_bl))
  pss_nil)
 (pss_one (ps_if (PW.pt (pw_and (pt_cmpR op_notN (pv 7) pe_non (nomark _)) (pw_and1 (pt_cmpR op_notBl (pe_call G_judge_colours (hr.mono (by decide)) rfl T.g_judge_colours T.F_judge_colours.kp T.b_judge_colours .nil pass0 (pa_cons (pv 2) (pa_cons (pe_callTy (Gx.call_list_ofK (K := K) rfl) rfl T.list (by decide +kernel) (pa_cons (pv 3) pa_nil)) (pa_cons (pv 5) (pa_cons (pv 7) pa_nil))))) pe_bl (nomark _)))))
  (pss_one (ps_ret pe_bl))
  pss_nil))))))))
 (pss_one (ps_ret pe_bl))))))), ?_⟩
    have zl : 200001 ≤ sizeLine := by decide
    refine ⟨_, rfl, q, ns, rfl, hs, hn, fun H1 d x1 d0 dr1 => ?_⟩
    refine ⟨_, rfl, d, 7, rfl, by decide, dr1, fun H2 ci x2 c0 c1 => ?_⟩
    obtain ⟨c, rfl⟩ : ∃ c : Nat, ci = c := ⟨ci.toNat, by omega⟩
    refine ⟨_, rfl, _, rfl, d, c, rfl, x2.dr, by omega, fun H3 lq us ls x3 lq0 hlq hR hL => ?_⟩
    have hlqd : lq ≠ d := (x2.dr.ne_none lq0).symm
    refine ⟨_, rfl, d, 4, rfl, by decide, x3.dr, fun H4 fi x4 f0 f1 => ?_⟩
    obtain ⟨f, rfl⟩ : ∃ f : Nat, fi = f := ⟨fi.toNat, by omega⟩
    refine ⟨_, rfl, _, rfl, _, _, rfl, rfl, _, _, rfl, rfl, (by show (0 : Int) < 5; decide), by show 2 ≤ sizeLine; decide, fun kl hkl => ?_⟩
    have hc6 := hL.c6
    have x1234 : Xd d H1 H4 := (x2.trans x3).trans x4
    have yk : Xt H4 (upd H4 kl (.lst [.int (f : Int), .int (((f : Int) + 1) % 5)])) := Xt.new hkl
    have kl4 : upd H4 kl (.lst [.int (f : Int), .int (((f : Int) + 1) % 5)]) kl = some (.lst [.int (f : Int), .int (((f : Int) + 1) % 5)]) := upd_same ..
    generalize upd H4 kl (.lst [.int (f : Int), .int (((f : Int) + 1) % 5)]) = HB at yk kl4
    have hTB : TabL HB a.P_least_colouring (lamQ a) := (tabL_xd (hT.xt x1) dr1 x1234).xt yk
    have hGB : GxR.TabG HB a.P_first_of_one_colour := yk.tabG (x1234.tabG (x1.tabG hG))
    have hJB : GxR.TabG HB a.P_is_of_one_colour := yk.tabG (x1234.tabG (x1.tabG hG'))
    have hqB := yk.lst (x4.lst hlqd hlq)
    have hRB := (RowA.xd x3.dr x4 hR).xt yk
    have hPB := tabL_has hTB
    have hv3 : ∀ (i : Nat) (v : V), ([.int (f : Int), .int (((f : Int) + 1) % 5)] : List V)[i]? = some v → ∃ k : Nat, k ≤ 4 ∧ v = .int (k : Int) := fun i v hv => by
      match i with
      | 0 => cases hv; exact ⟨f, by omega, rfl⟩
      | 1 => cases hv; exact ⟨(f + 1) % 5, by omega, by congr 1⟩
      | n + 2 => cases hv
    generalize ([.int (f : Int), .int (((f : Int) + 1) % 5)] : List V) = vals at kl4 hv3
    refine ⟨kl, rfl, ⟨_, .inl (.inl kl4)⟩, for_list (xs := vals) (fun i σ H' => ∃ c5 c6 c7 : Option V, σ = [some (.ref q), some (.ref d), some (.int (c : Int)), some (.ref lq), some (.int (f : Int)), c5, c6, c7] ∧ Xn a.P_least_colouring HB H' ∧ TabL H' a.P_least_colouring (lamQ a))
      ⟨none, none, none, rfl, Xn.of (Xt.refl _), hTB⟩ (fun i σ H' _ hh => ?_) (fun i v σ H' hv hh => ?_) (fun σ H' hh => ?_)⟩
    · obtain ⟨c5, c6, c7, rfl, xx, hT'⟩ := hh
      exact .inl (.inl (xx.lst hPB kl4))
    rotate_left
    · obtain ⟨c5, c6, c7, rfl, xx, hT'⟩ := hh
      exact kQ _ (tabL_has hT')
    obtain ⟨c5, c6, c7, rfl, xx, hT'⟩ := hh
    obtain ⟨k, hk4, rfl⟩ := hv3 i v hv
    have hq' := xx.lst hPB hqB
    have hR' := RowA.xn xx hPB hRB
    have hG1 := Xn.tabG xx hPB hGB
    have hJ1 := Xn.tabG xx hPB hJB
    refine ⟨_, rfl, _, rfl, _, rfl, Nat.zero_le _, fun e1 he1 => ?_⟩
    have z1 : Xt H' (upd H' e1 (.lst [])) := Xt.new he1
    refine ⟨c, by omega, lq, e1, ls, us, [], c, k, rfl, .inl (.inl (z1.lst hq')), hR'.xt z1, hL, hk4, upd_same .., by simp, fun Ha dv o eo xa0 ho => ?_⟩
    subst eo
    have xa := z1.trans xa0
    refine ⟨_, rfl, _, rfl, lq, _, rfl, .inl (.inl (.inl (xa.lst hq'))), fun pl hpl => ?_⟩
    have yb : Xt Ha (upd Ha pl (.lst us)) := Xt.new hpl
    have plb : upd Ha pl (.lst us) pl = some (.lst us) := upd_same ..
    generalize upd Ha pl (.lst us) = Hb at yb plb
    have xb := xa.trans yb
    have hPb := tabL_has (hT'.xt xb)
    refine ⟨_, rfl, pl, ls, us, c, k, rfl, .inl (.inl plb), hR'.xt xb, hL, hc6, hk4, hT'.xt xb, xb.tabG hG1, fun Hc av o xc Tc eo hav => ?_⟩
    subst eo
    have tmv : ∀ {Hz : Hp} {S : Addr → Prop} {v : V}, Xn a.P_least_colouring Hb Hz → OtV Hb S 4 (c + 1) (treeN ls k c []) v → OtV Hz S 4 (c + 1) (treeN ls k c []) v := fun {Hz S v} x h => by
      cases ht : treeN ls k c [] with
      | none => rw [ht] at h; exact h
      | some t =>
        rw [ht] at h
        exact TrV.keep (Nat.le_refl _) (fun _ h => h) (fun _ _ e => x.tup hPb e) (fun _ _ _ e => x.lst hPb e) _ _ t v (Nat.le_refl _) h
    have hdv := tmv xc (ho.xt yb)
    refine ⟨_, rfl, _, rfl, av, dv, rfl, same_ot (by omega) hav hdv, fun Hd xd => ⟨_, rfl, iteF ?_⟩⟩
    have xnd := xc.trans (Xn.of xd)
    have hqd := xnd.lst hPb (xb.lst hq')
    have hRd := RowA.xn xnd hPb (hR'.xt xb)
    have hGd := Xn.tabG xnd hPb (xb.tabG hG1)
    have hJd := Xn.tabG xnd hPb (xb.tabG hJ1)
    have Td := Tc.xt xd
    have hPd := tabL_has Td
    have havd := hav.xt xd
    have eav : decide (av = .non) = decide (treeN ls k c [] = none) := by
      cases ht : treeN ls k c [] with
      | none =>
        rw [ht] at hav
        rw [show av = .non from hav, decide_eq_true rfl, decide_eq_true rfl]
      | some t =>
        rw [ht] at hav
        obtain ⟨p, rfl⟩ := TrV.ref hav
        rw [decide_eq_false (fun z => by cases z), decide_eq_false (fun z => by cases z)]
    have ecv : ∀ {Hz : Hp} {v : V}, DueV Hz v (due ls c k) → decide (v = .non) = decide (due ls c k = none) := fun {Hz v} h => by
      cases hd : due ls c k with
      | none =>
        rw [hd] at h
        rw [show v = .non from h, decide_eq_true rfl, decide_eq_true rfl]
      | some cs =>
        rw [hd] at h
        obtain ⟨p, rfl, _⟩ := h
        rw [decide_eq_false (fun z => by cases z), decide_eq_false (fun z => by cases z)]
    have etd : decide (treeN ls k c [] = none) = !decide (due ls c k = none) := by
      by_cases h : due ls c k = none
      · rw [decide_eq_true h, decide_eq_false fun z => tree_due.mp z h]
        rfl
      · rw [decide_eq_false h, decide_eq_true (tree_due.mpr h)]
        rfl
    refine ⟨_, rfl, rfl, _, rfl, _, rfl, _, rfl, lq, ls, us, c, k, rfl, .inl (.inl hqd), hRd, hL, hc6, hk4, fun He cv xe hcv => ⟨rfl, rfl, _, rfl, ?_⟩⟩
    rw [eav, ecv hcv, etd]
    rw [decide_eq_true rfl]
    refine iteF ?_
    have hqe := xe.lst hqd
    have erv : ∀ {Hy Hz : Hp} {v : V}, ResV Hy Hz v (due ls c k) → decide (v = .non) = decide (due ls c k = none) := fun {Hy Hz v} h => by
      cases hd : due ls c k with
      | none =>
        rw [hd] at h
        rw [show v = .non from h, decide_eq_true rfl, decide_eq_true rfl]
      | some cs =>
        rw [hd] at h
        obtain ⟨p, rfl, _⟩ := h
        rw [decide_eq_false (fun z => by cases z), decide_eq_false (fun z => by cases z)]
    refine ⟨_, rfl, rfl, _, rfl, _, rfl, lq, _, rfl, .inl (.inl (.inl hqe)), fun l3 hl3 => ?_⟩
    have y3 : Xt He (upd He l3 (.lst us)) := Xt.new hl3
    have hl3' : upd He l3 (.lst us) l3 = some (.lst us) := upd_same ..
    generalize upd He l3 (.lst us) = Hf at y3 hl3'
    have xf := xe.trans y3
    have Tf := Td.xt xf
    have hPf := tabL_has Tf
    refine ⟨_, rfl, l3, ls, us, c, k, rfl, .inl (.inl hl3'), hRd.xt xf, hL, hc6, hk4, Tf, xf.tabG hGd, fun Hg lv xg Tg hlv => ⟨rfl, rfl, _, rfl, ?_⟩⟩
    rw [eav, erv hlv, etd]
    have enb : decide (V.bl (!decide (due ls c k = none)) = V.bl (decide (due ls c k = none))) = false := by
      cases decide (due ls c k = none) <;> rfl
    rw [enb]
    refine iteF ?_
    have xbg : Xn a.P_least_colouring Hd Hg := (Xn.of xf).trans xg
    have xng : Xn a.P_least_colouring HB Hg := ((xx.trans (Xn.of xb)).trans xnd).trans xbg
    refine ⟨_, rfl, rfl, _, rfl, ite2 (fun hb => ?_) (fun hb => iteF ⟨_, _, _, rfl, xng, Tg⟩)⟩
    cases ht : treeN ls k c [] with
    | none =>
      rw [eav, ht] at hb
      cases hb
    | some tr =>
      rw [ht] at havd
      have hqg := xbg.lst hPd hqd
      have htr : TrV Hg (fun _ => True) 4 (c + 1) tr av := TrV.keep (Nat.le_refl _) (fun _ h => h) (fun _ _ e => xbg.tup hPd e) (fun _ _ _ e => xbg.lst hPd e) _ _ tr av (Nat.le_refl _) havd
      refine ⟨_, rfl, _, rfl, lq, _, rfl, .inl (.inl (.inl hqg)), fun l4 hl4 => ?_⟩
      have y4 : Xt Hg (upd Hg l4 (.lst us)) := Xt.new hl4
      have hl4' : upd Hg l4 (.lst us) l4 = some (.lst us) := upd_same ..
      generalize upd Hg l4 (.lst us) = Hh at y4 hl4'
      refine ⟨_, rfl, _, rfl, l4, av, ls, us, tr, (fun _ => True), 4, c + 1, c, k, rfl, .inl (.inl hl4'), (RowA.xn xbg hPd hRd).xt y4, hL, hk4, htr.xt y4, y4.tabG (Xn.tabG xbg hPd hJd), fun Hi xi => ?_⟩
      rw [jd_tree _ _ _ ht]
      exact ⟨true, true, rfl, rfl, _, rfl, iteF ⟨_, _, _, rfl, xng.trans (Xn.of (y4.trans xi)), Tg.xt (y4.trans xi)⟩⟩


end
end K40
set_option Elab.async false
set_option linter.all false
set_option maxRecDepth 100000
namespace Gx
open PySem PySem.Spec PyProof.Rows L2
theorem FunQ.toFun {K : PySem.W.Frag} {x qual : Str} {st : Stmt} {f c : Addr} {fd : FuncData} (F : FunQ K x qual st f fd c) : Fun K x qual st f fd := by
  obtain ⟨oc, od, kV, doc, pm, an, ct, osl, rfl, lk, hc⟩ := F.ex
  exact ⟨⟨oc, od, kV, doc, pm, an, .ref c, ct, osl, rfl, lk, hc⟩, F.kp⟩
theorem funQ_mk {K : PySem.W.Frag} {x qual : Str} {st : Stmt} {f c : Addr} {od an : Option Addr} {sl : Array (Option Value)} {oc kV dc pm ct : Value} (l : K.lookup f = some ⟨oc, od, .func (PySem.W.fnOf x qual (defArgs st) (defBody st) (defScope st) .none kV dc pm an (.ref c) ct), sl⟩)
    (hc : PySem.W.codeIn K (.ref c) qual = true) (hk : PySem.W.keepIn K (.ref f) = true) : FunQ K x qual st f (PySem.W.fnOf x qual (defArgs st) (defBody st) (defScope st) .none kV dc pm an (.ref c) ct) c := ⟨⟨oc, od, kV, dc, pm, an, ct, sl, rfl, l, hc⟩, hk⟩
end Gx
set_option Elab.async false
set_option linter.all false
set_option maxRecDepth 100000
set_option maxHeartbeats 4000000
namespace K40
open PySem PySem.Spec PyProof.Rows L2 Gx
def spL0 (K : PySem.W.Frag) (a : Ads) : Sp := fun vs H Q _ => ∃ (q : Addr) (ns : List Int), vs = [.ref q] ∧ SqL K H q (ns.map V.int) ∧ ns.length ≤ 1000 ∧ H a.P_least_colouring = some (TabO a.P_least_colouring #[]) ∧ GxR.TabG H a.P_first_of_one_colour ∧ GxR.TabG H a.P_is_of_one_colour ∧ ∀ H1, (∃ ps, H1 a.P_least_colouring = some (TabO a.P_least_colouring ps)) → Q (.bl true) H1
theorem spL0_law {K : PySem.W.Frag} {a : Ads} {vs : List V} {H : Hp} {Q : VK} {E : XK} (h : spL0 K a vs H Q E) : spLaw40 K a vs H Q E := by
  obtain ⟨q, ns, e, hs, hl, hP, hG, hG2, hQ⟩ := h
  refine ⟨q, ns, e, hs, hl, ⟨#[], hP, trivial, fun pos cv hc => ?_⟩, hG, hG2, hQ⟩
  have z : codeAmong pos [] = some cv := hc
  simp [codeAmong] at z
theorem sqL_updP {K : PySem.W.Frag} {H : Hp} {P q : Addr} {o : HO} {xs : List V} (hP : H P = some (.tbl #[])) (h : SqL K H q xs) : SqL K (upd H P o) q xs := by
  rcases h with (h | ⟨ob, h⟩) | h
  · refine .inl (.inl ?_)
    rw [upd_ne fun z => ?_]
    · exact h
    · rw [z, hP] at h
      cases h
  · refine .inl (.inr ⟨ob, ?_⟩)
    rw [upd_ne fun z => ?_]
    · exact h
    · rw [z, hP] at h
      cases h
  · exact .inr h
theorem tabG_updP {H : Hp} {P R : Addr} {ps : Array Value} (hP : H P = some (.tbl #[])) (h : GxR.TabG H R) (hne : R ≠ P) : GxR.TabG (upd H P (TabO P ps)) R := by
  obtain ⟨qs, e, t⟩ := h
  exact ⟨qs, by rw [upd_ne hne]; exact e, t⟩
/-! ### what the top has left -/
theorem end_mk {l : PySem.W.OpenLaw} {w : World} {K : PySem.W.Frag} {h : Heap} {mg : Str → Option Value} {fa : Addr} (X : K.In h) (G : h.Ns mainGlobals mg) (hfa : mg "law" = some (.ref fa))
    (own : ∀ y ∈ (["least_colouring", "first_of_one_colour", "is_of_one_colour"] : List Str), ∀ f, mg y = some (.ref f) → LamX.OwnTab K f h)
    {f0 c0 : Addr} {od0 an0 : Option Addr} {sl0 : Array (Option Value)} {oc0 kV0 dc0 pm0 ct0 : Value}
    (a0 : PySem.W.nsIn K mainGlobals "least_colouring" = some (some (.ref f0))) (l0 : K.lookup f0 = some ⟨oc0, od0, .func (PySem.W.fnOf "least_colouring" "least_colouring" (defArgs s_least_colouring) (defBody s_least_colouring) (defScope s_least_colouring) .none kV0 dc0 pm0 an0 (.ref c0) ct0), sl0⟩) (c_0 : PySem.W.codeIn K (.ref c0) "least_colouring" = true) (k0 : PySem.W.keepIn K (.ref f0) = true)
    {f1 c1 : Addr} {od1 an1 : Option Addr} {sl1 : Array (Option Value)} {oc1 kV1 dc1 pm1 ct1 : Value}
    (a1 : PySem.W.nsIn K mainGlobals "first_colouring" = some (some (.ref f1))) (l1 : K.lookup f1 = some ⟨oc1, od1, .func (PySem.W.fnOf "first_colouring" "first_colouring" (defArgs s_first_colouring) (defBody s_first_colouring) (defScope s_first_colouring) .none kV1 dc1 pm1 an1 (.ref c1) ct1), sl1⟩) (c_1 : PySem.W.codeIn K (.ref c1) "first_colouring" = true) (k1 : PySem.W.keepIn K (.ref f1) = true)
    {f2 c2 : Addr} {od2 an2 : Option Addr} {sl2 : Array (Option Value)} {oc2 kV2 dc2 pm2 ct2 : Value}
    (a2 : PySem.W.nsIn K mainGlobals "choices_for" = some (some (.ref f2))) (l2 : K.lookup f2 = some ⟨oc2, od2, .func (PySem.W.fnOf "choices_for" "choices_for" (defArgs s_choices_for) (defBody s_choices_for) (defScope s_choices_for) .none kV2 dc2 pm2 an2 (.ref c2) ct2), sl2⟩) (c_2 : PySem.W.codeIn K (.ref c2) "choices_for" = true) (k2 : PySem.W.keepIn K (.ref f2) = true)
    {f3 c3 : Addr} {od3 an3 : Option Addr} {sl3 : Array (Option Value)} {oc3 kV3 dc3 pm3 ct3 : Value}
    (a3 : PySem.W.nsIn K mainGlobals "numbers_by_last" = some (some (.ref f3))) (l3 : K.lookup f3 = some ⟨oc3, od3, .func (PySem.W.fnOf "numbers_by_last" "numbers_by_last" (defArgs s_numbers_by_last) (defBody s_numbers_by_last) (defScope s_numbers_by_last) .none kV3 dc3 pm3 an3 (.ref c3) ct3), sl3⟩) (c_3 : PySem.W.codeIn K (.ref c3) "numbers_by_last" = true) (k3 : PySem.W.keepIn K (.ref f3) = true)
    {f4 c4 : Addr} {od4 an4 : Option Addr} {sl4 : Array (Option Value)} {oc4 kV4 dc4 pm4 ct4 : Value}
    (a4 : PySem.W.nsIn K mainGlobals "first_of_one_colour" = some (some (.ref f4))) (l4 : K.lookup f4 = some ⟨oc4, od4, .func (PySem.W.fnOf "first_of_one_colour" "first_of_one_colour" (defArgs s_first_of_one_colour) (defBody s_first_of_one_colour) (defScope s_first_of_one_colour) .none kV4 dc4 pm4 an4 (.ref c4) ct4), sl4⟩) (c_4 : PySem.W.codeIn K (.ref c4) "first_of_one_colour" = true) (k4 : PySem.W.keepIn K (.ref f4) = true)
    {f5 c5 : Addr} {od5 an5 : Option Addr} {sl5 : Array (Option Value)} {oc5 kV5 dc5 pm5 ct5 : Value}
    (a5 : PySem.W.nsIn K mainGlobals "colour_tree" = some (some (.ref f5))) (l5 : K.lookup f5 = some ⟨oc5, od5, .func (PySem.W.fnOf "colour_tree" "colour_tree" (defArgs s_colour_tree) (defBody s_colour_tree) (defScope s_colour_tree) .none kV5 dc5 pm5 an5 (.ref c5) ct5), sl5⟩) (c_5 : PySem.W.codeIn K (.ref c5) "colour_tree" = true) (k5 : PySem.W.keepIn K (.ref f5) = true)
    {f6 c6 : Addr} {od6 an6 : Option Addr} {sl6 : Array (Option Value)} {oc6 kV6 dc6 pm6 ct6 : Value}
    (a6 : PySem.W.nsIn K mainGlobals "judge_colours" = some (some (.ref f6))) (l6 : K.lookup f6 = some ⟨oc6, od6, .func (PySem.W.fnOf "judge_colours" "judge_colours" (defArgs s_judge_colours) (defBody s_judge_colours) (defScope s_judge_colours) .none kV6 dc6 pm6 an6 (.ref c6) ct6), sl6⟩) (c_6 : PySem.W.codeIn K (.ref c6) "judge_colours" = true) (k6 : PySem.W.keepIn K (.ref f6) = true)
    {f7 c7 : Addr} {od7 an7 : Option Addr} {sl7 : Array (Option Value)} {oc7 kV7 dc7 pm7 ct7 : Value}
    (a7 : PySem.W.nsIn K mainGlobals "is_of_one_colour" = some (some (.ref f7))) (l7 : K.lookup f7 = some ⟨oc7, od7, .func (PySem.W.fnOf "is_of_one_colour" "is_of_one_colour" (defArgs s_is_of_one_colour) (defBody s_is_of_one_colour) (defScope s_is_of_one_colour) .none kV7 dc7 pm7 an7 (.ref c7) ct7), sl7⟩) (c_7 : PySem.W.codeIn K (.ref c7) "is_of_one_colour" = true) (k7 : PySem.W.keepIn K (.ref f7) = true)
    {f8 c8 : Addr} {od8 an8 : Option Addr} {sl8 : Array (Option Value)} {oc8 kV8 dc8 pm8 ct8 : Value}
    (a8 : PySem.W.nsIn K mainGlobals "_law_draws" = some (some (.ref f8))) (l8 : K.lookup f8 = some ⟨oc8, od8, .func (PySem.W.fnOf "_law_draws" "_law_draws" (defArgs s__law_draws) (defBody s__law_draws) (defScope s__law_draws) .none kV8 dc8 pm8 an8 (.ref c8) ct8), sl8⟩) (c_8 : PySem.W.codeIn K (.ref c8) "_law_draws" = true) (k8 : PySem.W.keepIn K (.ref f8) = true)
    {f9 c9 : Addr} {od9 an9 : Option Addr} {sl9 : Array (Option Value)} {oc9 kV9 dc9 pm9 ct9 : Value}
    (a9 : PySem.W.nsIn K mainGlobals "_law_take" = some (some (.ref f9))) (l9 : K.lookup f9 = some ⟨oc9, od9, .func (PySem.W.fnOf "_law_take" "_law_take" (defArgs s__law_take) (defBody s__law_take) (defScope s__law_take) .none kV9 dc9 pm9 an9 (.ref c9) ct9), sl9⟩) (c_9 : PySem.W.codeIn K (.ref c9) "_law_take" = true) (k9 : PySem.W.keepIn K (.ref f9) = true)
    {f10 c10 : Addr} {od10 an10 : Option Addr} {sl10 : Array (Option Value)} {oc10 kV10 dc10 pm10 ct10 : Value}
    (a10 : PySem.W.nsIn K mainGlobals "_law_same" = some (some (.ref f10))) (l10 : K.lookup f10 = some ⟨oc10, od10, .func (PySem.W.fnOf "_law_same" "_law_same" (defArgs s__law_same) (defBody s__law_same) (defScope s__law_same) .none kV10 dc10 pm10 an10 (.ref c10) ct10), sl10⟩) (c_10 : PySem.W.codeIn K (.ref c10) "_law_same" = true) (k10 : PySem.W.keepIn K (.ref f10) = true)
    {f11 c11 : Addr} {od11 an11 : Option Addr} {sl11 : Array (Option Value)} {oc11 kV11 dc11 pm11 ct11 : Value}
    (a11 : PySem.W.nsIn K mainGlobals "_law_growths" = some (some (.ref f11))) (l11 : K.lookup f11 = some ⟨oc11, od11, .func (PySem.W.fnOf "_law_growths" "_law_growths" (defArgs s__law_growths) (defBody s__law_growths) (defScope s__law_growths) .none kV11 dc11 pm11 an11 (.ref c11) ct11), sl11⟩) (c_11 : PySem.W.codeIn K (.ref c11) "_law_growths" = true) (k11 : PySem.W.keepIn K (.ref f11) = true)
    {f12 c12 : Addr} {od12 an12 : Option Addr} {sl12 : Array (Option Value)} {oc12 kV12 dc12 pm12 ct12 : Value}
    (a12 : PySem.W.nsIn K mainGlobals "_law_of_one" = some (some (.ref f12))) (l12 : K.lookup f12 = some ⟨oc12, od12, .func (PySem.W.fnOf "_law_of_one" "_law_of_one" (defArgs s__law_of_one) (defBody s__law_of_one) (defScope s__law_of_one) .none kV12 dc12 pm12 an12 (.ref c12) ct12), sl12⟩) (c_12 : PySem.W.codeIn K (.ref c12) "_law_of_one" = true) (k12 : PySem.W.keepIn K (.ref f12) = true)
    {f13 c13 : Addr} {od13 an13 : Option Addr} {sl13 : Array (Option Value)} {oc13 kV13 dc13 pm13 ct13 : Value}
    (a13 : PySem.W.nsIn K mainGlobals "_law_colouring" = some (some (.ref f13))) (l13 : K.lookup f13 = some ⟨oc13, od13, .func (PySem.W.fnOf "_law_colouring" "_law_colouring" (defArgs s__law_colouring) (defBody s__law_colouring) (defScope s__law_colouring) .none kV13 dc13 pm13 an13 (.ref c13) ct13), sl13⟩) (c_13 : PySem.W.codeIn K (.ref c13) "_law_colouring" = true) (k13 : PySem.W.keepIn K (.ref f13) = true)
    {f14 c14 : Addr} {od14 an14 : Option Addr} {sl14 : Array (Option Value)} {oc14 kV14 dc14 pm14 ct14 : Value}
    (a14 : PySem.W.nsIn K mainGlobals "_law_lots" = some (some (.ref f14))) (l14 : K.lookup f14 = some ⟨oc14, od14, .func (PySem.W.fnOf "_law_lots" "_law_lots" (defArgs s__law_lots) (defBody s__law_lots) (defScope s__law_lots) .none kV14 dc14 pm14 an14 (.ref c14) ct14), sl14⟩) (c_14 : PySem.W.codeIn K (.ref c14) "_law_lots" = true) (k14 : PySem.W.keepIn K (.ref f14) = true)
    {f15 c15 : Addr} {od15 an15 : Option Addr} {sl15 : Array (Option Value)} {oc15 kV15 dc15 pm15 ct15 : Value}
    (a15 : PySem.W.nsIn K mainGlobals "_law_given" = some (some (.ref f15))) (l15 : K.lookup f15 = some ⟨oc15, od15, .func (PySem.W.fnOf "_law_given" "_law_given" (defArgs s__law_given) (defBody s__law_given) (defScope s__law_given) .none kV15 dc15 pm15 an15 (.ref c15) ct15), sl15⟩) (c_15 : PySem.W.codeIn K (.ref c15) "_law_given" = true) (k15 : PySem.W.keepIn K (.ref f15) = true)
    {f16 c16 : Addr} {od16 an16 : Option Addr} {sl16 : Array (Option Value)} {oc16 kV16 dc16 pm16 ct16 : Value}
    (a16 : PySem.W.nsIn K mainGlobals "_law_tree" = some (some (.ref f16))) (l16 : K.lookup f16 = some ⟨oc16, od16, .func (PySem.W.fnOf "_law_tree" "_law_tree" (defArgs s__law_tree) (defBody s__law_tree) (defScope s__law_tree) .none kV16 dc16 pm16 an16 (.ref c16) ct16), sl16⟩) (c_16 : PySem.W.codeIn K (.ref c16) "_law_tree" = true) (k16 : PySem.W.keepIn K (.ref f16) = true)
    {f17 c17 : Addr} {od17 an17 : Option Addr} {sl17 : Array (Option Value)} {oc17 kV17 dc17 pm17 ct17 : Value}
    (a17 : PySem.W.nsIn K mainGlobals "law" = some (some (.ref f17))) (l17 : K.lookup f17 = some ⟨oc17, od17, .func (PySem.W.fnOf "law" "law" (defArgs s_law) (defBody s_law) (defScope s_law) .none kV17 dc17 pm17 an17 (.ref c17) ct17), sl17⟩) (c_17 : PySem.W.codeIn K (.ref c17) "law" = true) (k17 : PySem.W.keepIn K (.ref f17) = true)
    {P0 : Addr} {te0 : Value} {td0 : Option Addr} {tv0 : Array Value} {ts0 : Array (Option Value)} (t0 : K.lookup c0 = some ⟨te0, td0, .fields tv0, ts0⟩) (u0 : tv0[11]? = some (.ref P0)) (n0 : K.lookup P0 = none) (h0 : hdB te0 tv0 c0 P0 = true)
    {P4 : Addr} {te4 : Value} {td4 : Option Addr} {tv4 : Array Value} {ts4 : Array (Option Value)} (t4 : K.lookup c4 = some ⟨te4, td4, .fields tv4, ts4⟩) (u4 : tv4[11]? = some (.ref P4)) (n4 : K.lookup P4 = none) (h4 : hdB te4 tv4 c4 P4 = true)
    {P7 : Addr} {te7 : Value} {td7 : Option Addr} {tv7 : Array Value} {ts7 : Array (Option Value)} (t7 : K.lookup c7 = some ⟨te7, td7, .fields tv7, ts7⟩) (u7 : tv7[11]? = some (.ref P7)) (n7 : K.lookup P7 = none) (h7 : hdB te7 tv7 c7 P7 = true)
    (z_len : PySem.W.nsIn K mainGlobals "len" = some none)
    (z_all : PySem.W.nsIn K mainGlobals "all" = some none)
    (z_max : PySem.W.nsIn K mainGlobals "max" = some none)
    (z_min : PySem.W.nsIn K mainGlobals "min" = some none)
    (z_abs : PySem.W.nsIn K mainGlobals "abs" = some none)
    (z_int : PySem.W.nsIn K mainGlobals "int" = some none)
    (z_range : PySem.W.nsIn K mainGlobals "range" = some none)
    (z_list : PySem.W.nsIn K mainGlobals "list" = some none)
    (z_reversed : PySem.W.nsIn K mainGlobals "reversed" = some none)
    (z_tuple : PySem.W.nsIn K mainGlobals "tuple" = some none)
    (z_enumerate : PySem.W.nsIn K mainGlobals "enumerate" = some none)
    (z_isinstance : PySem.W.nsIn K mainGlobals "isinstance" = some none)
    (z_bool : PySem.W.nsIn K mainGlobals "bool" = some none)
    (z_str : PySem.W.nsIn K mainGlobals "str" = some none)
    (pne : P4 ≠ P0) (pne2 : P7 ≠ P0)
    : LamX.LawAtS l w K CX0 20 63 "script" mg fa h := by
  have e := hfa.symm.trans (PySem.W.mg_of X G a17)
  have e2 : f17 = fa := by cases e; rfl
  subst e2
  have F0 := funT_mk (st := s_least_colouring) l0 c_0 k0
  have F1 := funT_mk (st := s_first_colouring) l1 c_1 k1
  have F2 := funT_mk (st := s_choices_for) l2 c_2 k2
  have F3 := funT_mk (st := s_numbers_by_last) l3 c_3 k3
  have F4 := funT_mk (st := s_first_of_one_colour) l4 c_4 k4
  have F5 := funT_mk (st := s_colour_tree) l5 c_5 k5
  have F6 := funT_mk (st := s_judge_colours) l6 c_6 k6
  have F7 := funT_mk (st := s_is_of_one_colour) l7 c_7 k7
  have F8 := funT_mk (st := s__law_draws) l8 c_8 k8
  have F9 := funT_mk (st := s__law_take) l9 c_9 k9
  have F10 := funT_mk (st := s__law_same) l10 c_10 k10
  have F11 := funT_mk (st := s__law_growths) l11 c_11 k11
  have F12 := funT_mk (st := s__law_of_one) l12 c_12 k12
  have F13 := funT_mk (st := s__law_colouring) l13 c_13 k13
  have F14 := funT_mk (st := s__law_lots) l14 c_14 k14
  have F15 := funT_mk (st := s__law_given) l15 c_15 k15
  have F16 := funT_mk (st := s__law_tree) l16 c_16 k16
  have F17 := funT_mk (st := s_law) l17 c_17 k17
  have b0 := F0.toFun.binds (ps := ["count", "lots", "k"]) fun _ _ _ _ _ _ us hl => match us, hl with | [_, _, _], _ => rfl
  have b1 := F1.toFun.binds (ps := ["count", "k", "is_fine"]) fun _ _ _ _ _ _ us hl => match us, hl with | [_, _, _], _ => rfl
  have b2 := F2.toFun.binds (ps := ["colours", "k"]) fun _ _ _ _ _ _ us hl => match us, hl with | [_, _], _ => rfl
  have b3 := F3.toFun.binds (ps := ["lots"]) fun _ _ _ _ _ _ us hl => match us, hl with | [_], _ => rfl
  have b4 := F4.toFun.binds (ps := ["lots", "ending", "colours"]) fun _ _ _ _ _ _ us hl => match us, hl with | [_, _, _], _ => rfl
  have b5 := F5.toFun.binds (ps := ["count", "lots", "k"]) fun _ _ _ _ _ _ us hl => match us, hl with | [_, _, _], _ => rfl
  have b6 := F6.toFun.binds (ps := ["count", "lots", "k", "tree"]) fun _ _ _ _ _ _ us hl => match us, hl with | [_, _, _, _], _ => rfl
  have b7 := F7.toFun.binds (ps := ["lot", "colours"]) fun _ _ _ _ _ _ us hl => match us, hl with | [_, _], _ => rfl
  have b8 := F8.toFun.binds (ps := ["script"]) fun _ _ _ _ _ _ us hl => match us, hl with | [_], _ => rfl
  have b9 := F9.toFun.binds (ps := ["draws", "bound"]) fun _ _ _ _ _ _ us hl => match us, hl with | [_, _], _ => rfl
  have b10 := F10.toFun.binds (ps := ["value", "due"]) fun _ _ _ _ _ _ us hl => match us, hl with | [_, _], _ => rfl
  have b11 := F11.toFun.binds (ps := ["count", "k"]) fun _ _ _ _ _ _ us hl => match us, hl with | [_, _], _ => rfl
  have b12 := F12.toFun.binds (ps := ["lots", "colours"]) fun _ _ _ _ _ _ us hl => match us, hl with | [_, _], _ => rfl
  have b13 := F13.toFun.binds (ps := ["count", "lots", "k"]) fun _ _ _ _ _ _ us hl => match us, hl with | [_, _, _], _ => rfl
  have b14 := F14.toFun.binds (ps := ["draws", "count"]) fun _ _ _ _ _ _ us hl => match us, hl with | [_, _], _ => rfl
  have b15 := F15.toFun.binds (ps := ["colours", "k"]) fun _ _ _ _ _ _ us hl => match us, hl with | [_, _], _ => rfl
  have b16 := F16.toFun.binds (ps := ["count", "lots", "k", "colours"]) fun _ _ _ _ _ _ us hl => match us, hl with | [_, _, _, _], _ => rfl
  have b17 := F17.toFun.binds (ps := ["script"]) fun _ _ _ _ _ _ us hl => match us, hl with | [_], _ => rfl
  let a : Ads := { f_least_colouring := f0, c_least_colouring := c0, P_least_colouring := P0, fd_least_colouring := PySem.W.fnOf "least_colouring" "least_colouring" (defArgs s_least_colouring) (defBody s_least_colouring) (defScope s_least_colouring) .none kV0 dc0 pm0 an0 (.ref c0) ct0,  f_first_colouring := f1, c_first_colouring := c1, P_first_colouring := 0, fd_first_colouring := PySem.W.fnOf "first_colouring" "first_colouring" (defArgs s_first_colouring) (defBody s_first_colouring) (defScope s_first_colouring) .none kV1 dc1 pm1 an1 (.ref c1) ct1,  f_choices_for := f2, c_choices_for := c2, P_choices_for := 0, fd_choices_for := PySem.W.fnOf "choices_for" "choices_for" (defArgs s_choices_for) (defBody s_choices_for) (defScope s_choices_for) .none kV2 dc2 pm2 an2 (.ref c2) ct2,  f_numbers_by_last := f3, c_numbers_by_last := c3, P_numbers_by_last := 0, fd_numbers_by_last := PySem.W.fnOf "numbers_by_last" "numbers_by_last" (defArgs s_numbers_by_last) (defBody s_numbers_by_last) (defScope s_numbers_by_last) .none kV3 dc3 pm3 an3 (.ref c3) ct3,  f_first_of_one_colour := f4, c_first_of_one_colour := c4, P_first_of_one_colour := P4, fd_first_of_one_colour := PySem.W.fnOf "first_of_one_colour" "first_of_one_colour" (defArgs s_first_of_one_colour) (defBody s_first_of_one_colour) (defScope s_first_of_one_colour) .none kV4 dc4 pm4 an4 (.ref c4) ct4,  f_colour_tree := f5, c_colour_tree := c5, P_colour_tree := 0, fd_colour_tree := PySem.W.fnOf "colour_tree" "colour_tree" (defArgs s_colour_tree) (defBody s_colour_tree) (defScope s_colour_tree) .none kV5 dc5 pm5 an5 (.ref c5) ct5,  f_judge_colours := f6, c_judge_colours := c6, P_judge_colours := 0, fd_judge_colours := PySem.W.fnOf "judge_colours" "judge_colours" (defArgs s_judge_colours) (defBody s_judge_colours) (defScope s_judge_colours) .none kV6 dc6 pm6 an6 (.ref c6) ct6,  f_is_of_one_colour := f7, c_is_of_one_colour := c7, P_is_of_one_colour := P7, fd_is_of_one_colour := PySem.W.fnOf "is_of_one_colour" "is_of_one_colour" (defArgs s_is_of_one_colour) (defBody s_is_of_one_colour) (defScope s_is_of_one_colour) .none kV7 dc7 pm7 an7 (.ref c7) ct7,  f__law_draws := f8, c__law_draws := c8, P__law_draws := 0, fd__law_draws := PySem.W.fnOf "_law_draws" "_law_draws" (defArgs s__law_draws) (defBody s__law_draws) (defScope s__law_draws) .none kV8 dc8 pm8 an8 (.ref c8) ct8,  f__law_take := f9, c__law_take := c9, P__law_take := 0, fd__law_take := PySem.W.fnOf "_law_take" "_law_take" (defArgs s__law_take) (defBody s__law_take) (defScope s__law_take) .none kV9 dc9 pm9 an9 (.ref c9) ct9,  f__law_same := f10, c__law_same := c10, P__law_same := 0, fd__law_same := PySem.W.fnOf "_law_same" "_law_same" (defArgs s__law_same) (defBody s__law_same) (defScope s__law_same) .none kV10 dc10 pm10 an10 (.ref c10) ct10,  f__law_growths := f11, c__law_growths := c11, P__law_growths := 0, fd__law_growths := PySem.W.fnOf "_law_growths" "_law_growths" (defArgs s__law_growths) (defBody s__law_growths) (defScope s__law_growths) .none kV11 dc11 pm11 an11 (.ref c11) ct11,  f__law_of_one := f12, c__law_of_one := c12, P__law_of_one := 0, fd__law_of_one := PySem.W.fnOf "_law_of_one" "_law_of_one" (defArgs s__law_of_one) (defBody s__law_of_one) (defScope s__law_of_one) .none kV12 dc12 pm12 an12 (.ref c12) ct12,  f__law_colouring := f13, c__law_colouring := c13, P__law_colouring := 0, fd__law_colouring := PySem.W.fnOf "_law_colouring" "_law_colouring" (defArgs s__law_colouring) (defBody s__law_colouring) (defScope s__law_colouring) .none kV13 dc13 pm13 an13 (.ref c13) ct13,  f__law_lots := f14, c__law_lots := c14, P__law_lots := 0, fd__law_lots := PySem.W.fnOf "_law_lots" "_law_lots" (defArgs s__law_lots) (defBody s__law_lots) (defScope s__law_lots) .none kV14 dc14 pm14 an14 (.ref c14) ct14,  f__law_given := f15, c__law_given := c15, P__law_given := 0, fd__law_given := PySem.W.fnOf "_law_given" "_law_given" (defArgs s__law_given) (defBody s__law_given) (defScope s__law_given) .none kV15 dc15 pm15 an15 (.ref c15) ct15,  f__law_tree := f16, c__law_tree := c16, P__law_tree := 0, fd__law_tree := PySem.W.fnOf "_law_tree" "_law_tree" (defArgs s__law_tree) (defBody s__law_tree) (defScope s__law_tree) .none kV16 dc16 pm16 an16 (.ref c16) ct16,  f_law := f17, c_law := c17, P_law := 0, fd_law := PySem.W.fnOf "law" "law" (defArgs s_law) (defBody s_law) (defScope s_law) .none kV17 dc17 pm17 an17 (.ref c17) ct17 }
  have T : Txt K mg a := { g_least_colouring := PySem.W.mg_of X G a0, F_least_colouring := F0, b_least_colouring := b0,  g_first_colouring := PySem.W.mg_of X G a1, F_first_colouring := F1, b_first_colouring := b1,  g_choices_for := PySem.W.mg_of X G a2, F_choices_for := F2, b_choices_for := b2,  g_numbers_by_last := PySem.W.mg_of X G a3, F_numbers_by_last := F3, b_numbers_by_last := b3,  g_first_of_one_colour := PySem.W.mg_of X G a4, F_first_of_one_colour := F4, b_first_of_one_colour := b4,  g_colour_tree := PySem.W.mg_of X G a5, F_colour_tree := F5, b_colour_tree := b5,  g_judge_colours := PySem.W.mg_of X G a6, F_judge_colours := F6, b_judge_colours := b6,  g_is_of_one_colour := PySem.W.mg_of X G a7, F_is_of_one_colour := F7, b_is_of_one_colour := b7,  g__law_draws := PySem.W.mg_of X G a8, F__law_draws := F8, b__law_draws := b8,  g__law_take := PySem.W.mg_of X G a9, F__law_take := F9, b__law_take := b9,  g__law_same := PySem.W.mg_of X G a10, F__law_same := F10, b__law_same := b10,  g__law_growths := PySem.W.mg_of X G a11, F__law_growths := F11, b__law_growths := b11,  g__law_of_one := PySem.W.mg_of X G a12, F__law_of_one := F12, b__law_of_one := b12,  g__law_colouring := PySem.W.mg_of X G a13, F__law_colouring := F13, b__law_colouring := b13,  g__law_lots := PySem.W.mg_of X G a14, F__law_lots := F14, b__law_lots := b14,  g__law_given := PySem.W.mg_of X G a15, F__law_given := F15, b__law_given := b15,  g__law_tree := PySem.W.mg_of X G a16, F__law_tree := F16, b__law_tree := b16,  g_law := PySem.W.mg_of X G a17, F_law := F17, b_law := b17, len := PySem.W.mg_none_of X G z_len, all := PySem.W.mg_none_of X G z_all, max := PySem.W.mg_none_of X G z_max, min := PySem.W.mg_none_of X G z_min, abs := PySem.W.mg_none_of X G z_abs, int := PySem.W.mg_none_of X G z_int, range := PySem.W.mg_none_of X G z_range, list := PySem.W.mg_none_of X G z_list, reversed := PySem.W.mg_none_of X G z_reversed, tuple := PySem.W.mg_none_of X G z_tuple, enumerate := PySem.W.mg_none_of X G z_enumerate, isinstance := PySem.W.mg_none_of X G z_isinstance, bool := PySem.W.mg_none_of X G z_bool, str := PySem.W.mg_none_of X G z_str }
  have H0 := tab_own F0 (own "least_colouring" (by simp) _ (PySem.W.mg_of X G a0)) t0 u0
  have H4 := tab_own F4 (own "first_of_one_colour" (by simp) _ (PySem.W.mg_of X G a4)) t4 u4
  have H7 := tab_own F7 (own "is_of_one_colour" (by simp) _ (PySem.W.mg_of X G a7)) t7 u7
  refine ⟨a.fd_law, [(c0, P0), (c4, P4), (c7, P7)], (fun vs H Q E => H a.P_least_colouring = some (.tbl #[]) ∧ (∀ v H1 H2, Q v H1 → Q v H2) ∧ spL0 K a vs (upd H a.P_least_colouring (TabO a.P_least_colouring #[])) (fun v H1 => Q v H1 ∧ ∃ qs, H1 a.P_least_colouring = some (TabO a.P_least_colouring qs)) E), ?_, ?_, ?_, fun s v => .of_eq rfl, ?_, fun base _ _ hB => ?_⟩
  · exact fun p hp => by
      simp only [List.mem_cons, List.not_mem_nil, or_false] at hp
      rcases hp with rfl | rfl | rfl
      · exact H0
      · exact H4
      · exact H7
  · exact fun p hp => by
      simp only [List.mem_cons, List.not_mem_nil, or_false] at hp
      rcases hp with rfl | rfl | rfl
      · exact n0
      · exact n4
      · exact n7
  · exact fun p hp => by
      simp only [List.mem_cons, List.not_mem_nil, or_false] at hp
      rcases hp with rfl | rfl | rfl
      · exact PySem.W.codeHd_of_K X (hd_of t0 h0)
      · exact PySem.W.codeHd_of_K X (hd_of t4 h4)
      · exact PySem.W.codeHd_of_K X (hd_of t7 h7)
  · exact fun H q ns hl hbits hP hS => ⟨hP (c0, P0) (by simp), fun _ _ _ h => h, q, ns, rfl, sqL_updP (hP (c0, P0) (by simp)) hS, by omega, upd_same .., tabG_updP (hP (c0, P0) (by simp)) (tabG_nil (hP (c4, P4) (by simp))) pne, tabG_updP (hP (c0, P0) (by simp)) (tabG_nil (hP (c7, P7) (by simp))) pne2, fun H1 h => ⟨rfl, h⟩⟩
  · have B : TabT base mg a := { tab_least_colouring := tabB_of (hB (c0, P0) (by simp)),  tab_first_of_one_colour := tabB_of (hB (c4, P4) (by simp)),  tab_is_of_one_colour := tabB_of (hB (c7, P7) (by simp)) }
    have G_take := ok__law_take (P := l.prog) (w := w) T B
    have G_draws := ok__law_draws (P := l.prog) (w := w) T B
    have G_ch := ok_choices_for (P := l.prog) (w := w) T B
    have G_nbl := ok_numbers_by_last (P := l.prog) (w := w) T B
    have G_foc := ok_first_of_one_colour (P := l.prog) (w := w) T B
    have G_ones := ok__law_of_one (P := l.prog) (w := w) T B
    have G_grow := ok__law_growths (P := l.prog) (w := w) T B
    have G_col := ok__law_colouring T B G_grow G_ones
    have G_lots := ok__law_lots T B G_take
    have G_least := ok_least_colouring T B G_nbl G_ch G_foc
    have G_is := ok_is_of_one_colour (P := l.prog) (w := w) T B
    have G_given := ok__law_given (P := l.prog) (w := w) T B
    have G_judge := ok_judge_colours T B G_is G_ch
    have G_tree := ok__law_tree T B G_ones G_given
    have G_focS := ok_focS (P := l.prog) (w := w) T B
    have G_ct := ok_colour_tree T B G_least G_nbl G_ch G_focS
    have G_same := ok_same (P := l.prog) (w := w) (base := base) T
    exact fnOk_tabO a.P_least_colouring ((ok_law T B G_draws G_take G_lots G_col G_least G_ct G_judge (fn_up fun n hn => (G_tree n).mono (by omega)) (G_same 15)).imp fun vs H Q E h => spL0_law h)
end K40
set_option Elab.async false
set_option linter.all false
set_option maxRecDepth 100000
open PySem PySem.W PyProof.Rows
set_option maxHeartbeats 0 in
theorem PySem.Challenge.cw_fewrules_k40_colour_trees_told_holds : PySem.Challenge.rw_fewrules_k40_colour_trees_told.Holds := by
  w_on; o_law; k_head; (case hw => w_witness2)
  k_fill
  refine Gx.walk_ofAll (l := PySem.Challenge.rw_fewrules_k40_colour_trees_told) (n := 63) (k := 20) (x := "script") (CX := fun _ => L2.CX0) (recs := ["least_colouring", "first_of_one_colour", "is_of_one_colour"]) rfl (by decide) rfl ⟨rfl, by decide, by decide⟩ ?R (fun w h Y => Y.1) ?F (fun _ _ _ _ _ h => h)
  case R => decide +kernel
  case F =>
    intro w mg fa h Y KX G hmg own
    refine' K40.end_mk KX G hmg own ?a0 ?l0 ?c_0 ?k0 ?a1 ?l1 ?c_1 ?k1 ?a2 ?l2 ?c_2 ?k2 ?a3 ?l3 ?c_3 ?k3 ?a4 ?l4 ?c_4 ?k4 ?a5 ?l5 ?c_5 ?k5 ?a6 ?l6 ?c_6 ?k6 ?a7 ?l7 ?c_7 ?k7 ?a8 ?l8 ?c_8 ?k8 ?a9 ?l9 ?c_9 ?k9 ?a10 ?l10 ?c_10 ?k10 ?a11 ?l11 ?c_11 ?k11 ?a12 ?l12 ?c_12 ?k12 ?a13 ?l13 ?c_13 ?k13 ?a14 ?l14 ?c_14 ?k14 ?a15 ?l15 ?c_15 ?k15 ?a16 ?l16 ?c_16 ?k16 ?a17 ?l17 ?c_17 ?k17 ?t0 ?u0 ?n0 ?h0 ?t4 ?u4 ?n4 ?h4 ?t7 ?u7 ?n7 ?h7 ?z_len ?z_all ?z_max ?z_min ?z_abs ?z_int ?z_range ?z_list ?z_reversed ?z_tuple ?z_enumerate ?z_isinstance ?z_bool ?z_str ?pne ?pne2
    (case a0 => k_is)
    (case l0 => k_is)
    (case c_0 => k_is)
    (case k0 => k_is)
    (case a1 => k_is)
    (case l1 => k_is)
    (case c_1 => k_is)
    (case k1 => k_is)
    (case a2 => k_is)
    (case l2 => k_is)
    (case c_2 => k_is)
    (case k2 => k_is)
    (case a3 => k_is)
    (case l3 => k_is)
    (case c_3 => k_is)
    (case k3 => k_is)
    (case a4 => k_is)
    (case l4 => k_is)
    (case c_4 => k_is)
    (case k4 => k_is)
    (case a5 => k_is)
    (case l5 => k_is)
    (case c_5 => k_is)
    (case k5 => k_is)
    (case a6 => k_is)
    (case l6 => k_is)
    (case c_6 => k_is)
    (case k6 => k_is)
    (case a7 => k_is)
    (case l7 => k_is)
    (case c_7 => k_is)
    (case k7 => k_is)
    (case a8 => k_is)
    (case l8 => k_is)
    (case c_8 => k_is)
    (case k8 => k_is)
    (case a9 => k_is)
    (case l9 => k_is)
    (case c_9 => k_is)
    (case k9 => k_is)
    (case a10 => k_is)
    (case l10 => k_is)
    (case c_10 => k_is)
    (case k10 => k_is)
    (case a11 => k_is)
    (case l11 => k_is)
    (case c_11 => k_is)
    (case k11 => k_is)
    (case a12 => k_is)
    (case l12 => k_is)
    (case c_12 => k_is)
    (case k12 => k_is)
    (case a13 => k_is)
    (case l13 => k_is)
    (case c_13 => k_is)
    (case k13 => k_is)
    (case a14 => k_is)
    (case l14 => k_is)
    (case c_14 => k_is)
    (case k14 => k_is)
    (case a15 => k_is)
    (case l15 => k_is)
    (case c_15 => k_is)
    (case k15 => k_is)
    (case a16 => k_is)
    (case l16 => k_is)
    (case c_16 => k_is)
    (case k16 => k_is)
    (case a17 => k_is)
    (case l17 => k_is)
    (case c_17 => k_is)
    (case k17 => k_is)
    (case t0 => k_is)
    (case u0 => rfl)
    (case n0 => kernel_rfl)
    (case h0 => rfl)
    (case t4 => k_is)
    (case u4 => rfl)
    (case n4 => kernel_rfl)
    (case h4 => rfl)
    (case t7 => k_is)
    (case u7 => rfl)
    (case n7 => kernel_rfl)
    (case h7 => rfl)
    (case z_len => k_is)
    (case z_all => k_is)
    (case z_max => k_is)
    (case z_min => k_is)
    (case z_abs => k_is)
    (case z_int => k_is)
    (case z_range => k_is)
    (case z_list => k_is)
    (case z_reversed => k_is)
    (case z_tuple => k_is)
    (case z_enumerate => k_is)
    (case z_isinstance => k_is)
    (case z_bool => k_is)
    (case z_str => k_is)
    (case pne => decide)
    (case pne2 => decide)
