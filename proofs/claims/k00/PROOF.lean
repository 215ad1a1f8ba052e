import PyProof.Rows.All
import Wide.All
import OpenK.AllK
import Wide.FinOn
import PySem.Challenge.RW_fewrules_k00_signatures_and_worlds_refus
import HandS.ForMost
import HandS.GenList
import HandS.AnyAll
import HandS.Rev
import HandS.Codes
import HandS.Conv
import HandS.StrMore
import HandS.IsInst
import HandS.Iter
import HandS.EndOwn
import HandS.ForExc
import HandS.ExcIs
import KE.KExcIs
import HandS.TryMany
import HandS.Star
import HandS.TupSets
import KE.KeyNested
import KE.KDictKeyed
import HandS.SetFor
import PyProof.StrBlock2
import HandS.Deep
import HandS.TupAny
set_option Elab.async false
set_option linter.all false
set_option maxRecDepth 100000
set_option maxHeartbeats 2000000
namespace Gx
open PySem PySem.Spec PyProof.Rows L2 GenW

/-- a generator expression's scope: its own names, and the captured ones with their places in the def's names -/
structure GxS (sc : Scope) (N : List Str) (scope : Scope) (own caps : List Str) (cix : List Nat) : Prop where
  kind : scope.kind = .function
  co : scope.isCoroutine = false
  cell : ∀ y ∈ scope.names, y.2 ≠ .cell
  dot : scope.names.lookup (".0" : Str) = some NameKind.local
  nd : (own ++ caps).Nodup
  len : caps.length = cix.length
  at_ : ∀ (j : Nat) (x : Str), caps[j]? = some x → ∃ i, cix[j]? = some i ∧ N[i]? = some x
  capF : ∀ x ∈ caps, scope.names.lookup x = some .free
  free : ∀ y ∈ scope.names, y.2 = .free → sc.names.lookup y.1 = some .cell ∨ sc.names.lookup y.1 = some .free

def gxC (sc : Scope) (N : List Str) (scope : Scope) (own caps : List Str) (cix : List Nat) : Bool :=
  (match scope.kind with | .function => true | _ => false) && (scope.isCoroutine == false) && scope.names.all (fun y => match y.2 with | .cell => false | .free => (match sc.names.lookup y.1 with | some .cell => true | some .free => true | _ => false) | _ => true) &&
  (match scope.names.lookup (".0" : Str) with | some .local => true | _ => false) && decide (own ++ caps).Nodup && decide (caps.length = cix.length) && decide ((cix.map fun i => N[i]?) = caps.map some) &&
  caps.all (fun x => match scope.names.lookup x with | some .free => true | _ => false)
theorem gxs_by {sc : Scope} {N : List Str} {scope : Scope} {own caps : List Str} {cix : List Nat} (h : gxC sc N scope own caps cix = true) : GxS sc N scope own caps cix := by
  unfold gxC at h
  simp only [Bool.and_eq_true, List.all_eq_true, decide_eq_true_eq, beq_iff_eq] at h
  obtain ⟨⟨⟨⟨⟨⟨⟨h1, h2⟩, h3⟩, h4⟩, h5⟩, h6⟩, h7⟩, h8⟩ := h
  refine ⟨?_, h2, fun y hy e => ?_, ?_, h5, h6, fun j x e => ?_, fun x hx => ?_, fun y hy e => ?_⟩
  · split at h1
    · assumption
    · cases h1
  · have q := h3 y hy
    rw [e] at q
    cases q
  · split at h4
    · assumption
    · cases h4
  · have e2 : (cix.map fun i => N[i]?)[j]? = some (some x) := by rw [h7, List.getElem?_map, e]; rfl
    rw [List.getElem?_map] at e2
    cases q : cix[j]? with
    | none => rw [q] at e2; cases e2
    | some i => rw [q] at e2; exact ⟨i, rfl, Option.some.inj e2⟩
  · have q := h8 x hx
    split at q
    · assumption
    · cases q
  · have q := h3 y hy
    rw [e] at q
    simp only at q
    split at q
    · exact .inl (by assumption)
    · exact .inr (by assumption)
    · cases q
/-- the slots within: the own names without values, the captured ones -/
def gσ (own : List Str) (cix : List Nat) (σ : L2.St) : L2.St := List.replicate own.length none ++ cix.map fun i => (σ[i]?).getD none
/-- what the turn has not forgotten -/
def Wk (σ' σ2 : L2.St) : Prop := σ'.length = σ2.length ∧ ∀ (i : Nat) v, σ'[i]? = some (some v) → σ2[i]? = some (some v)

/-- the context within: s, H: the state ahead of the frame's making -/
abbrev gxCx (X : Cx) (A : Around) (N : List Str) (s : Shared) (H : Hp) (genv : Env) (fp : List Addr) (pn : List (Addr × Obj)) : Cx :=
  { X with A := A, N := N, s_0 := s, H_0 := H, env := genv, outer := X.stack, stack := genv :: X.stack, ex := fp, fn := fun _ => false, calm := true, pn := pn, xe := fun _ _ => False }

section
variable {X : Cx} {pins : List (Addr × Obj)} {σ : L2.St} {H : Hp} {s : Shared}
theorem gx_start {scope : Scope} {own caps : List Str} {cix : List Nat} {fp : List Addr} {A : Around} {code : Value} {a : Addr} {go : Obj} {s5 : Shared} (I : Inv X pins σ H s) (S : GxS X.env.scope X.N scope own caps cix)
    (hfp : ∀ b ∈ fp, FpOk X pins H b ∧ b < s.heap.objs.size) (hA : A.handled = none) (hfr : A.frames = some (genEnv scope (cloFrom X.env.cells scope.names []) s.heap.objs.size code builtinsNs X.env :: X.stack))
    (k5 : ∀ b o, s.heap.get? b = some o → s5.heap.get? b = some o) (hn : ∃ m, s5.heap.Ns s.heap.objs.size m) (os5 : s5.os = s.os) (b5 : AllBare s5.gens)
    (ha : s.heap.objs.size < a) (hgo : s5.heap.get? a = some go) (hgd : ∀ v, go.data ≠ .cell v) :
    Inv (gxCx X A (own ++ caps) s H (genEnv scope (cloFrom X.env.cells scope.names []) s.heap.objs.size code builtinsNs X.env) fp [(a, go)]) [] (gσ own cix σ) H s5 := by
  generalize hge : genEnv scope (cloFrom X.env.cells scope.names []) s.heap.objs.size code builtinsNs X.env = genv at hfr
  have gL : genv.locals = s.heap.objs.size := by rw [← hge]; rfl
  have gC : genv.cells = cloFrom X.env.cells scope.names [] := by rw [← hge]; rfl
  have gS : genv.scope = scope := by rw [← hge]; rfl
  have gF : genv.frame = some genv.locals := by rw [← hge]; rfl
  have hfree : ∀ y ∈ scope.names, y.2 = .free → ∃ c, X.env.cells.lookup y.1 = some c := fun y hy e => by
    rcases S.free y hy e with k | k
    · exact I.ok.has _ (.inl k)
    · exact I.ok.has _ (.inr k)
  have cm : ∀ {y c}, genv.cells.lookup y = some c → X.env.cells.lookup y = some c ∧ c < s.heap.objs.size := fun {y c} e => by
    rw [gC] at e
    rcases cloFrom_mem (PySem.mem_of_lookup e) with hm | ⟨h1, rfl⟩
    · cases hm
    · obtain ⟨c, hc⟩ := hfree _ h1 rfl
      rw [hc]
      obtain ⟨w, z⟩ := I.cell _ _ hc
      exact ⟨rfl, z.lt⟩
  have look : ∀ {y}, scope.names.lookup y = some .free → ∃ c, genv.cells.lookup y = some c := fun {y} hl => by
    obtain ⟨c', e'⟩ := mem_lookup (cloFrom_has (cells := X.env.cells) (acc := []) (PySem.mem_of_lookup hl))
    exact ⟨c', by rw [gC]; exact e'⟩
  have okY : (gxCx X A (own ++ caps) s H genv fp [(a, go)]).Ok := by
    refine ⟨I.ok.mod, by show genv.scope.kind = _; rw [gS]; exact S.kind, by show genv.globals = _; rw [← hge]; exact I.ok.glob, by show genv.builtins = _; rw [← hge]; rfl, by show s.heap.objs.size ≤ genv.locals; rw [gL]; exact Nat.le_refl _,
      fun y z c e1 e2 => I.ok.inj y z c (cm e1).1 (cm e2).1, fun y hy => ?_, fun y c z _ => absurd z Bool.false_ne_true, fun _ => hA, hfr, .inr ⟨rfl, gF⟩, fun b hb => ⟨?_, fun y c e z => ?_⟩, I.bs, Nat.le_trans I.ok.bsz I.sz, fun b o e hb => ?_, fun b hb z => ?_, I.stack, I.stkFree⟩
    · have key : ∀ k, genv.kindOf y = some k → (k = .cell ∨ k = .free) → ∃ c, genv.cells.lookup y = some c := fun k hk hk' => by
        unfold Env.kindOf at hk
        rw [gS] at hk
        rcases hk' with rfl | rfl
        · exact absurd rfl (S.cell _ (PySem.mem_of_lookup hk))
        · exact look hk
      rcases hy with hy | hy
      · exact key _ hy (.inl rfl)
      · exact key _ hy (.inr rfl)
    · show b ≠ genv.locals
      rw [gL]; exact Nat.ne_of_lt (hfp b hb).2
    · exact (hfp b hb).1.2.2.2.2.1 y c (cm e).1 z
    · rcases (hfp b hb).1.2.2.2.1 with z | z
      · exact I.ok.noex b o e z
      · exact absurd (Nat.lt_of_lt_of_le (Heap.lt_size e) (Nat.le_trans I.ok.bsz z)) (Nat.lt_irrefl _)
    · rcases List.mem_cons.mp (I.stkSub b z) with z | z
      · exact (hfp b hb).1.2.1 z
      · exact (hfp b hb).1.2.2.1 z
  have young : ∀ b, s.heap.objs.size ≤ b → H b = none ∧ b ∉ frs X.stack := fun b hb => by
    refine ⟨I.hok.fresh hb, fun z => ?_⟩
    rcases List.mem_cons.mp (I.stkSub b z) with z | z
    · have h1 := I.lt
      rw [← z] at h1
      exact Nat.lt_irrefl _ (Nat.lt_of_lt_of_le h1 hb)
    · exact I.nofs hb z
  refine ⟨okY, os5, b5, Un.kept k5, ?_, fun y c e => ?_, ?_, fun y c e => I.freeC y c (cm e).1, fun p hp => ?_, I.hok.kept k5, ?_⟩
  · obtain ⟨m, hm⟩ := hn
    refine ⟨m, by show s5.heap.Ns genv.locals m; rw [gL]; exact hm, fun i y v e1 e2 e3 => ?_⟩
    have e1 : (own ++ caps)[i]? = some y := e1
    have hi : own.length ≤ i := by
      by_cases hlt : i < own.length
      · unfold gσ at e2
        rw [List.getElem?_append_left (by simpa using hlt), List.getElem?_replicate, if_pos hlt] at e2
        cases e2
      · omega
    rw [List.getElem?_append_right hi] at e1
    unfold gσ at e2
    rw [List.getElem?_append_right (by simpa using hi), List.length_replicate] at e2
    obtain ⟨ix, h1, h2⟩ := S.at_ _ _ e1
    rw [List.getElem?_map, h1] at e2
    have e4 : σ[ix]? = some (some v) := by
      have e5 : (σ[ix]?).getD none = some v := Option.some.inj e2
      cases q : σ[ix]? with
      | none => rw [q] at e5; cases e5
      | some u => rw [q] at e5; exact congrArg some e5
    have hcap := S.capF y (List.mem_of_getElem? e1)
    obtain ⟨mX, _, hl⟩ := I.loc
    have hfr2 := S.free _ (PySem.mem_of_lookup hcap) rfl
    have hvis : Vis X.env.scope y := hfr2.elim (fun k => .inr (.inl k)) fun k => .inr (.inr k)
    obtain ⟨u, r, q⟩ := hl ix y v h2 e4 hvis
    refine ⟨u, r, .inr ⟨.inr (by show genv.scope.names.lookup y = _; rw [gS]; exact hcap), ?_⟩⟩
    obtain ⟨c, hc⟩ := look hcap
    rcases q with ⟨k, _⟩ | ⟨_, c', e', z⟩
    · have k : X.env.scope.names.lookup y = some .local := k
      rcases hfr2 with k' | k' <;> rw [show X.env.scope.names.lookup y = _ from k'] at k <;> cases k
    · rw [(cm hc).1] at e'; cases e'
      exact ⟨c, hc, z.keeps k5⟩
  · obtain ⟨w, z⟩ := I.cell y c (cm e).1
    exact ⟨w, z.keeps k5⟩
  · show H genv.locals = none
    rw [gL]; exact I.hok.fresh (Nat.le_refl _)
  · have hp' : p ∈ [(a, go)] := by simpa using hp
    rw [List.mem_singleton.mp hp']
    obtain ⟨y1, y2⟩ := young a (Nat.le_of_lt ha)
    exact ⟨hgo, y1, by show a ≠ genv.locals; rw [gL]; exact Nat.ne_of_gt ha, y2, hgd⟩
  · unfold gσ
    show _ = (own ++ caps).length
    rw [List.length_append, List.length_append, List.length_replicate, List.length_map, S.len]
end

theorem over_cs {A : Around} {elt : Expr} {gs : List Comprehension} {scope : Scope} {pos : Pos} {it acc : Value} {env : Env} : A.over (.compStart (.GeneratorExp elt gs scope pos) 0 it acc env) [] = A.deeper env := by
  first
    | rfl
    | (obtain ⟨hd, d, fr, gs, u⟩ := A; simp [Around.over, Around.deeper, marksOver, frameCount, unitsOf, envsOf, guardsOf, pushEnvs, pushGuards, Code.envs, Code.env?, Code.isFrame, Code.guards, Code.isGuard, Code.weight, Code.frames, Code.isCreation, Code.isCaller, Code.cUnits])
theorem over_cl {A : Around} {elt : Expr} {gs : List Comprehension} {scope : Scope} {pos : Pos} {it acc : Value} {env : Env} : A.over (.compLoop (.GeneratorExp elt gs scope pos) 0 it acc env) [] = A.deeper env := by
  first
    | rfl
    | (obtain ⟨hd, d, fr, gs, u⟩ := A; simp [Around.over, Around.deeper, marksOver, frameCount, unitsOf, envsOf, guardsOf, pushEnvs, pushGuards, Code.envs, Code.env?, Code.isFrame, Code.guards, Code.isGuard, Code.weight, Code.frames, Code.isCreation, Code.isCaller, Code.cUnits])

/-! ### the protocol: q, the value that ends the search -/
section
variable {Y : Cx} {σ' : L2.St}
def YGx (Y : Cx) (σ' : L2.St) (q : Bool) (Q : VK) : Protocol := fun n s₀ v s kap =>
  ∃ c H, v = .bool c ∧ Inv Y [] σ' H s ∧ (c = q → Q (.bl q) H) ∧ (c ≠ q → ∀ s', s'.heap = s.heap → s'.os = s.os → AllBare s'.gens → kap (.send .none) s')
def PGx (Y : Cx) (σ' : L2.St) (q : Bool) (Q : VK) : Nat → Shared → Shared → Prop := fun n s₀ s => ∃ H, Inv Y [] σ' H s ∧ Q (.bl (!q)) H
abbrev RGx (Y : Cx) (σ' : L2.St) (q : Bool) (Q : VK) : GenEnd := fun n s₀ r s => r = .ok .next ∧ PGx Y σ' q Q n s₀ s

/-- the same heap, other generators -/
theorem inv_gens {H : Hp} {s s' : Shared} (I : Inv Y [] σ' H s) (k : ∀ b o, s.heap.get? b = some o → s'.heap.get? b = some o) (ho : s'.os = s.os) (hb : AllBare s'.gens) : Inv Y [] σ' H s' :=
  I.call' (ch := []) ho (Un.kept k) (I.hok.kept k) hb fun b z => absurd z (by simp)

/-- one turn's reading: W by the turn and a measure -/
def gxW (J : It) (g : TG) (tt : TT) (te : TE) (σ' : L2.St) (q : Bool) (Q : VK) (W : Nat → Nat → Hp → Prop) : Prop := ∀ i m H, W i m H →
  (J.stop i H ∧ Q (.bl (!q)) H) ∨ (J.go i H ∧ ∃ Nx : Hp → Prop, (∀ H', Nx H' → ∃ m', m' < m ∧ W (i + 1) m' H') ∧ ∀ x H', J.yld i H x H' → g x σ' H' fun σ2 H2 => Wk σ' σ2 ∧ tt σ2 H2 fun b H3 =>
    if b = true then te σ2 H3 fun y H4 => ∃ c, y = .bl c ∧ (if c = q then Q (.bl q) H4 else Nx H4) else Nx H3)

theorem seg_gx {elt tg iter : Expr} {ifs : List Expr} {scope : Scope} {pos : Pos} {A : Around} {it : Addr} {fp : List Addr} {tn : Nat → Heap → Prop} {J : It} {g : TG} {tt : TT} {te : TE} {q : Bool} {Q : VK} {W : Nat → Nat → Hp → Prop}
    (hYA : Y.A = A.deeper Y.env) (hex : Y.ex = fp) (hpn : ∀ p ∈ Y.pn, p.1 ∉ fp) (hcalm : Y.calm = true) (hxe : Y.xe = fun _ _ => False) (hco : Y.env.scope.isCoroutine = false)
    (T : Turn Y.prog Y.w Y.K tg J fp it tn) (hg : PG Y tg g) (ht : PTs Y ifs tt) (he : PE Y elt te) (hW : gxW J g tt te σ' q Q W) :
    ∀ (m n i : Nat) (s₀ s : Shared) (H : Hp), m < n → Inv Y [] σ' H s → tn i s.heap → (∀ b ∈ fp, H b = none) → W i m H →
      Seg (model Y.prog Y.w) A (RGx Y σ' q Q) (YGx Y σ' q Q) n s₀ (.compLoop (.GeneratorExp elt [⟨tg, iter, ifs, 0⟩] scope pos) 0 (.ref it) .none Y.env)
        ((model Y.prog Y.w).den (.compLoop (.GeneratorExp elt [⟨tg, iter, ifs, 0⟩] scope pos) 0 (.ref it) .none Y.env)) [] s := by
  have stat : ∀ {σ2 : L2.St} {H' : Hp} {s' : Shared}, Inv Y [] σ2 H' s' → (∀ b ∈ fp, H' b = none) → ∀ b ∈ fp, FpOk Y [] H' b := fun {σ2 H' s'} I' hn b hb =>
    ⟨hn b hb, (I'.ok.exf b (by rw [hex]; exact hb)).1, I'.ok.exfs b (by rw [hex]; exact hb), .inl (by rw [hex]; exact hb), fun x c e => (I'.ok.exf b (by rw [hex]; exact hb)).2 x c e, fun p hp z => hpn p (by simpa using hp) (by rw [z]; exact hb)⟩
  intro m
  induction m using Nat.strongRecOn with
  | ind m ih =>
    intro n i s₀ s H hmn I st hn w
    show Seg _ A _ _ _ s₀ _ ((compTurn (.GeneratorExp elt [⟨tg, iter, ifs, 0⟩] scope pos) 0 (.ref it) .none Y.env).onRaise (leaving Y.env)) [] s
    rw [compTurn_gen, Sem.onRaise_eq_wrap]
    refine seg_bind_wrap (wpAny_standAt ?_)
    rcases hW i m H w with ⟨stop, qq⟩ | ⟨go, Nx, hNx, step⟩
    · refine seg_bind_wrap ?_
      rw [over_cl, ← hYA]
      refine wpAny_mono (T.done Y rfl rfl rfl hcalm i [] s _ H (fun _ _ => False) I (stat I hn) st stop) (fun r s1 ⟨hr, I1⟩ => ?_) fun _ _ z => False.elim z
      subst hr
      exact seg_end (.ok .next) ⟨rfl, H, I1, qq⟩
    · refine seg_bind_wrap ?_
      rw [over_cl, ← hYA]
      refine wpAny_mono (T.item Y rfl rfl rfl hcalm i [] s _ H (fun _ _ => False) I (stat I hn) st go) (fun r s1 ⟨u, hr, h1⟩ => ?_) fun _ _ z => False.elim z
      subst hr
      refine seg_bind_wrap ?_
      rw [over_cl, ← hYA]
      refine wpAny_mono h1 (fun _ s2 ⟨x, H2, I2, r2, y2, st2, n2⟩ => ?_) fun _ _ z => False.elim z
      have I2' := I2.pinned (stat I2 n2) (T.obj _ _ st2)
      refine seg_bind_wrap ?_
      rw [over_cl, ← hYA]
      have hgr := hg.run _ s2 _ H2 x u _ I2' r2 (step x H2 y2)
      rw [hxe] at hgr
      refine wpAny_mono hgr (fun _ s3 ⟨σ3, H3, I3, hw3, q3⟩ => ?_) fun _ _ z => False.elim z
      refine seg_bind_wrap ?_
      rw [over_cl, ← hYA]
      have htr := ht.run _ s3 σ3 H3 _ I3 q3
      rw [hxe] at htr
      refine wpAny_mono htr (fun b s4 ⟨H4, I4, q4⟩ => ?_) fun _ _ z => False.elim z
      have back : ∀ {s' : Shared} {H' : Hp}, Inv Y ([] ++ pinsAt fp s2.heap) σ3 H' s' → Inv Y [] σ' H' s' ∧ tn (i + 1) s'.heap ∧ ∀ b ∈ fp, H' b = none := fun {s' H'} I' => by
        have pin' : ∀ b ∈ fp, ∀ o, s2.heap.get? b = some o → s'.heap.get? b = some o ∧ H' b = none := fun b hb o e =>
          let z := I'.pin (b, o) (List.mem_append_right _ (List.mem_append_right _ (mem_pinsAt hb e)))
          ⟨z.1, z.2.1⟩
        refine ⟨(I'.unpinned (pins := [])).weak hw3.1 hw3.2, T.keep _ _ _ st2 fun b hb o e => (pin' b hb o e).1, fun b hb => ?_⟩
        obtain ⟨o, e, _⟩ := T.obj _ _ st2 b hb
        exact (pin' b hb o e).2
      cases b with
      | false =>
        simp only [Bool.false_eq_true, if_false] at q4 ⊢
        obtain ⟨m', hm, w'⟩ := hNx H4 q4
        obtain ⟨J4, st4, n4⟩ := back I4
        exact seg_again rfl (ih m' hm n (i + 1) s₀ s4 H4 (by omega) J4 st4 n4 w')
      | true =>
        simp only [if_true] at q4 ⊢
        have hy : ∀ v, yieldOut Y.env v = yieldValue v := fun v => by simp only [yieldOut, hco, Bool.false_eq_true, if_false]
        simp only [hy]
        rw [Sem.bind_eq_wrap', Sem.bind_eq_wrap', Sem.wrap_wrap, Sem.wrap_wrap]
        refine seg_wrap ?_
        rw [over_cl, ← hYA]
        have her := he.run _ s4 σ3 H4 _ I4 q4
        rw [hxe] at her
        refine wpAny_mono her (fun v s5 ⟨y, H5, I5, r5, c, ec, q5⟩ => ?_) fun _ _ z => False.elim z
        subst ec
        obtain rfl : v = Value.bool c := r5
        obtain ⟨J5, st5, n5⟩ := back I5
        obtain ⟨n, rfl⟩ : ∃ n', n = n' + 1 := by
          exact ⟨n - 1, by omega⟩
        refine seg_at (seg_yield rfl rfl rfl ⟨c, H5, rfl, J5, fun e => ?_, fun e s' hh ho hb => ?_⟩)
        · rw [if_pos e] at q5
          exact q5
        · rw [if_neg e] at q5
          obtain ⟨m', hm, w'⟩ := hNx H5 q5
          exact seg_again rfl (ih m' hm n (i + 1) s' s' H5 (by omega) (inv_gens J5 (fun b o z => by rw [hh]; exact z) ho hb) (by rw [hh]; exact st5) n5 w')

theorem seg_gxS {elt tg iter : Expr} {ifs : List Expr} {scope : Scope} {pos : Pos} {A : Around} {it : Addr} {fp : List Addr} {tn : Nat → Heap → Prop} {J : It} {g : TG} {tt : TT} {te : TE} {q : Bool} {Q : VK} {W : Nat → Nat → Hp → Prop}
    (hYA : Y.A = A.deeper Y.env) (hex : Y.ex = fp) (hpn : ∀ p ∈ Y.pn, p.1 ∉ fp) (hcalm : Y.calm = true) (hxe : Y.xe = fun _ _ => False) (hco : Y.env.scope.isCoroutine = false)
    (T : Turn Y.prog Y.w Y.K tg J fp it tn) (hg : PG Y tg g) (ht : PTs Y ifs tt) (he : PE Y elt te) (hW : gxW J g tt te σ' q Q W)
    {m n : Nat} {s₀ s : Shared} {H : Hp} (hmn : m < n) (I : Inv Y [] σ' H s) (st : tn 0 s.heap) (hn : ∀ b ∈ fp, H b = none) (w : W 0 m H) :
      Seg (model Y.prog Y.w) A (RGx Y σ' q Q) (YGx Y σ' q Q) n s₀ (.compStart (.GeneratorExp elt [⟨tg, iter, ifs, 0⟩] scope pos) 0 (.ref it) .none Y.env)
        ((model Y.prog Y.w).den (.compStart (.GeneratorExp elt [⟨tg, iter, ifs, 0⟩] scope pos) 0 (.ref it) .none Y.env)) [] s := by
  have loop := seg_gx (elt := elt) (iter := iter) (ifs := ifs) (scope := scope) (pos := pos) hYA hex hpn hcalm hxe hco T hg ht he hW m n 0 s₀ s H hmn I st hn w
  show Seg _ A _ _ _ s₀ _ ((compStart (.GeneratorExp elt [⟨tg, iter, ifs, 0⟩] scope pos) 0 (.ref it) .none Y.env).onRaise (leaving Y.env)) [] s
  unfold compStart
  rw [Sem.onRaise_eq_wrap]
  show Seg _ A _ _ _ s₀ _ ((ask >>= _).wrap _ _ _ _) [] s
  refine seg_bind_wrap (wpAny_askSetting ?_)
  split
  · exact seg_again rfl loop
  · first
      | exact seg_bind_wrap (wpAny_rule (seg_bind_wrap (wpAny_standAt (seg_bind_wrap (T.self _ 0 s _ _ st (seg_again rfl loop))))))
      | (refine seg_bind_wrap (wpAny_rule ?_); show Seg _ A _ _ _ s₀ _ ((standAt iter.pos >>= _).wrap _ _ _ _) [] s; exact seg_bind_wrap (wpAny_standAt (seg_bind_wrap (T.self _ 0 s _ _ st (seg_again rfl loop)))))

/-! ### the consumers -/
theorem inv_set {H : Hp} {s : Shared} {g : Nat} {x : GenState} (I : Inv Y [] σ' H s) (hx : x.bare = true) : Inv Y [] σ' H (s.setGen g x) :=
  inv_gens I (fun _ _ z => z) rfl (allBare_setGen I.bare hx)
theorem pin_gen {H : Hp} {s : Shared} {a : Addr} {go : Obj} {g : Nat} (hp : Y.pn = [(a, go)]) (hg : ∀ h : Heap, h.get? a = some go → h.IsGen a g) (I : Inv Y [] σ' H s) : s.heap.IsGen a g :=
  hg _ (I.pin (a, go) (by rw [hp]; exact List.mem_append_left _ (List.mem_singleton.mpr rfl))).1

/-- what the end of the consumer's loop knows -/
def GxEnd (Y : Cx) (σ' : L2.St) (Q : VK) (r : Result) (s' : Shared) : Prop := ∃ b H, r = .ok (.ret (.bool b)) ∧ Inv Y [] σ' H s' ∧ Q (.bl b) H

theorem gx_next {A : Around} {a : Addr} {go : Obj} {g : Nat} {q : Bool} {Q : VK} {n : Nat} {s : Shared} {H : Hp} {Z : Option Value → Shared → Prop} {E : Value → Shared → Prop} (hp : Y.pn = [(a, go)]) (hg : ∀ h : Heap, h.get? a = some go → h.IsGen a g) (hh : A.handled = none) (hd : A.depth < recursionLimit)
    (I : Inv Y [] σ' H s) (h : ∃ gs, s.gens[g]? = some gs ∧ gs.Goes (model Y.prog Y.w) A.in1 (RGx Y σ' q Q) (YGx Y σ' q Q) n (.send .none) (s.setGen g .running))
    (hN : ∀ s' H', Inv Y [] σ' H' s' → Q (.bl (!q)) H' → Z none s')
    (hQ : ∀ s' H', Inv Y [] σ' H' s' → Q (.bl q) H' → Z (some (.bool q)) s')
    (hM : ∀ s' H' n', n = n' + 1 → Inv Y [] σ' H' s' → (∃ gs, s'.gens[g]? = some gs ∧ gs.Goes (model Y.prog Y.w) A.in1 (RGx Y σ' q Q) (YGx Y σ' q Q) n' (.send .none) (s'.setGen g .running)) → Z (some (.bool (!q))) s') :
    wpAny (model Y.prog Y.w) A (pyNext (.ref a)) Z E s := by
  obtain ⟨gs, hgs, hgo⟩ := h
  have hgl : g < s.gens.size := (Array.getElem?_eq_some_iff.mp hgs).1
  refine wpAny_gsz (n := g + 1) hgl (wpAny_pyNext_genexpQ (A := A) (P := PGx Y σ' q Q) hh I.nolimit hd (pin_gen hp hg I) hgs hgo (fun v s₁ gs' hb hv => ?_) (fun s₁ hP h' hk => ?_))
  · intro hsz
    obtain ⟨c, H1, rfl, I1, h1, h2⟩ := hv
    have I2 : Inv Y [] σ' H1 (s₁.setGen g gs') := inv_set I1 hb
    by_cases hc : c = q
    · subst hc
      exact hQ _ H1 I2 (h1 rfl)
    · have ec : c = !q := by cases c <;> cases q <;> simp_all
      subst ec
      have kap := h2 hc ((s₁.setGen g gs').setGen g .running) rfl rfl (allBare_setGen (allBare_setGen I1.bare hb) rfl)
      cases n with
      | zero => exact False.elim kap
      | succ n =>
        refine hM _ H1 n rfl I2 ⟨gs', setGen_at ?_, kap⟩
        have q := hsz
        rw [setGen_size] at q
        exact q
  · intro _
    obtain ⟨H1, I1, q1⟩ := hP
    refine hN _ H1 (inv_gens I1 ?_ rfl (allBare_setGen I1.bare rfl)) q1
    exact fun b o z => hk b o z

theorem all_gx {A : Around} {a : Addr} {go : Obj} {g : Nat} {Q : VK} (hp : Y.pn = [(a, go)]) (hg : ∀ h : Heap, h.get? a = some go → h.IsGen a g) (hh : A.handled = none) (hd : A.depth < recursionLimit) :
    ∀ (n : Nat) (s : Shared) (H : Hp), Inv Y [] σ' H s → (∃ gs, s.gens[g]? = some gs ∧ gs.Goes (model Y.prog Y.w) A.in1.in1 (RGx Y σ' false Q) (YGx Y σ' false Q) n (.send .none) (s.setGen g .running)) →
      codeAny (model Y.prog Y.w) A (.builtin "all.loop" ⟨[.ref a], []⟩) (GxEnd Y σ' Q) s := by
  intro n
  induction n with
  | zero =>
    intro s H I h
    refine codeAny_builtin F.entry_all_loop ?_
    rw [Around.under_plainId F.plain_all_loop _]
    show wpAny _ A.in1 (pyNext (.ref a) >>= _) _ _ s
    refine wpAny_bind (gx_next (A := A.in1) hp hg hh hd I h (fun s' H' I' q' => ?_) (fun s' H' I' q' => ?_) fun s' H' n' e _ _ => by omega)
    · exact wpAny_bind (wpAny_rule (wpAny_pure ⟨true, H', rfl, I', q'⟩))
    · refine wpAny_bind (wpAny_holding (wpAny_truthy_bool ?_))
      refine wpAny_bind (wpAny_letGo ?_)
      simp only [Bool.false_eq_true, if_false]
      exact wpAny_bind (wpAny_rule (wpAny_pure ⟨false, H', rfl, I', q'⟩))
  | succ n ih =>
    intro s H I h
    refine codeAny_builtin F.entry_all_loop ?_
    rw [Around.under_plainId F.plain_all_loop _]
    show wpAny _ A.in1 (pyNext (.ref a) >>= _) _ _ s
    refine wpAny_bind (gx_next (A := A.in1) hp hg hh hd I h (fun s' H' I' q' => ?_) (fun s' H' I' q' => ?_) fun s' H' n' e I' h' => ?_)
    · exact wpAny_bind (wpAny_rule (wpAny_pure ⟨true, H', rfl, I', q'⟩))
    · refine wpAny_bind (wpAny_holding (wpAny_truthy_bool ?_))
      refine wpAny_bind (wpAny_letGo ?_)
      simp only [Bool.false_eq_true, if_false]
      exact wpAny_bind (wpAny_rule (wpAny_pure ⟨false, H', rfl, I', q'⟩))
    · obtain rfl : n = n' := by omega
      refine wpAny_bind (wpAny_holding (wpAny_truthy_bool ?_))
      refine wpAny_bind (wpAny_letGo ?_)
      simp only [Bool.not_false, if_true]
      exact wpAny_pure ⟨plainId_quiet F.plain_all_loop _, ih s' H' I' h'⟩
theorem any_gx {A : Around} {a : Addr} {go : Obj} {g : Nat} {Q : VK} (hp : Y.pn = [(a, go)]) (hg : ∀ h : Heap, h.get? a = some go → h.IsGen a g) (hh : A.handled = none) (hd : A.depth < recursionLimit) :
    ∀ (n : Nat) (s : Shared) (H : Hp), Inv Y [] σ' H s → (∃ gs, s.gens[g]? = some gs ∧ gs.Goes (model Y.prog Y.w) A.in1.in1 (RGx Y σ' true Q) (YGx Y σ' true Q) n (.send .none) (s.setGen g .running)) →
      codeAny (model Y.prog Y.w) A (.builtin "any.loop" ⟨[.ref a], []⟩) (GxEnd Y σ' Q) s := by
  intro n
  induction n with
  | zero =>
    intro s H I h
    refine codeAny_builtin F.entry_any_loop ?_
    rw [Around.under_plainId F.plain_any_loop _]
    show wpAny _ A.in1 (pyNext (.ref a) >>= _) _ _ s
    refine wpAny_bind (gx_next (A := A.in1) hp hg hh hd I h (fun s' H' I' q' => ?_) (fun s' H' I' q' => ?_) fun s' H' n' e _ _ => by omega)
    · exact wpAny_bind (wpAny_rule (wpAny_pure ⟨false, H', rfl, I', q'⟩))
    · refine wpAny_bind (wpAny_holding (wpAny_truthy_bool ?_))
      refine wpAny_bind (wpAny_letGo ?_)
      simp only [if_true]
      exact wpAny_bind (wpAny_rule (wpAny_pure ⟨true, H', rfl, I', q'⟩))
  | succ n ih =>
    intro s H I h
    refine codeAny_builtin F.entry_any_loop ?_
    rw [Around.under_plainId F.plain_any_loop _]
    show wpAny _ A.in1 (pyNext (.ref a) >>= _) _ _ s
    refine wpAny_bind (gx_next (A := A.in1) hp hg hh hd I h (fun s' H' I' q' => ?_) (fun s' H' I' q' => ?_) fun s' H' n' e I' h' => ?_)
    · exact wpAny_bind (wpAny_rule (wpAny_pure ⟨false, H', rfl, I', q'⟩))
    · refine wpAny_bind (wpAny_holding (wpAny_truthy_bool ?_))
      refine wpAny_bind (wpAny_letGo ?_)
      simp only [if_true]
      exact wpAny_bind (wpAny_rule (wpAny_pure ⟨true, H', rfl, I', q'⟩))
    · obtain rfl : n = n' := by omega
      refine wpAny_bind (wpAny_holding (wpAny_truthy_bool ?_))
      refine wpAny_bind (wpAny_letGo ?_)
      simp only [Bool.not_true, Bool.false_eq_true, if_false]
      exact wpAny_pure ⟨plainId_quiet F.plain_any_loop _, ih s' H' I' h'⟩
end
end Gx
set_option Elab.async false
set_option linter.all false
set_option maxRecDepth 100000
set_option maxHeartbeats 2000000
namespace Gx
open PySem PySem.Spec PyProof.Rows L2 GenW

/-- all(..), any(..) of a generator expression; q: the value that ends the search; P: the table of the def's code object -/
def tGx (P : Addr) (wi : TI) (g : TG) (tt : TT) (te : TE) (own : List Str) (cix : List Nat) (q : Bool) : TE := fun σ H Q => wi σ H fun J H1 => GxR.TabG H1 P ∧ ∀ H2, GxR.Tabbed P H1 H2 →
  ∃ (W : Nat → Nat → Hp → Prop) (m : Nat), W 0 m H2 ∧ gxW J g tt te (gσ own cix σ) q Q W
/-- the context within, as the frame is made -/
abbrev gxAt (X : Cx) (own caps : List Str) (scope : Scope) (A : Around) (s : Shared) (H : Hp) (C : Addr) (cl : List (Str × Addr)) (code : Value) (bi : Addr) (fp : List Addr) (pn : List (Addr × Obj)) : Cx :=
  gxCx X A (own ++ caps) s H (genEnv scope cl C code bi X.env) fp pn

theorem boot_all : bootBuiltins "all" = some (.builtin "all") := by decide +kernel
theorem boot_any : bootBuiltins "any" = some (.builtin "any") := by decide +kernel
section
variable {X : Cx} {pins : List (Addr × Obj)} {σ : L2.St} {H : Hp} {s : Shared}
theorem gx_make {c P : Addr} {elt tg iter : Expr} {ifs : List Expr} {gpos : Pos} {scope : Scope} {own caps : List Str} {cix : List Nat} {wi : TI} {g : TG} {tt : TT} {te : TE} {q : Bool} {k : Nat} {Q : VK} {Q' : Value → Shared → Prop}
    (hr : Room (k + 1) X.A) (TB : GxR.TabB X.base X.mg c P) (hcode : X.env.code = .ref c) (S : GxS X.env.scope X.N scope own caps cix) (hi : PI X tg iter wi)
    (hg : ∀ A s H C cl code bi fp pn, Room k A → PG (gxAt X own caps scope A s H C cl code bi fp pn) tg g) (ht : ∀ A s H C cl code bi fp pn, Room k A → PTs (gxAt X own caps scope A s H C cl code bi fp pn) ifs tt)
    (he : ∀ A s H C cl code bi fp pn, Room k A → PE (gxAt X own caps scope A s H C cl code bi fp pn) elt te)
    (hs : ∀ v, genFold iter X.env v = pure v) (I : Inv X pins σ H s) (h : tGx P wi g tt te own cix q σ H Q)
    (hQ : ∀ (Y : Cx) (a : Addr) (go : Obj) (gi n : Nat) (s5 : Shared) (H5 : Hp), Y.prog = X.prog → Y.w = X.w → Y.pn = [(a, go)] → (∀ h : Heap, h.get? a = some go → h.IsGen a gi) → Inv Y [] (gσ own cix σ) H5 s5 →
      (∀ s6 : Shared, s6.gens = s5.gens → (∀ b o, s5.heap.get? b = some o → s6.heap.get? b = some o) → s6.os = s5.os → ∃ gs : GenState, s6.gens[gi]? = some gs ∧ gs.Goes (model X.prog X.w) X.A.in1.in1 (RGx Y (gσ own cix σ) q Q) (YGx Y (gσ own cix σ) q Q) n (.send .none) (s6.setGen gi .running)) →
      (∀ s' H' v, Inv Y [] (gσ own cix σ) H' s' → Q v H' → ∀ u, RelV v u → EP X pins σ Q u s') → Q' (.ref a) s5) :
    wpAny (model X.prog X.w) X.A (eval (.GeneratorExp elt [⟨tg, iter, ifs, 0⟩] scope gpos) X.env) Q' X.xe s := by
  have hfree : ∀ y ∈ scope.names, y.2 = .free → ∃ c, X.env.cells.lookup y.1 = some c := fun y hy e => by
    rcases S.free y hy e with k | k
    · exact I.ok.has _ (.inl k)
    · exact I.ok.has _ (.inr k)
  refine wpAny_GeneratorExp_make S.co (closure_ok hfree) S.cell S.dot S.kind hr.depth (thn (hi.run pins s σ H _ I h) fun xv s1 hx => thn hx fun itv s2 h2 => ?_) hs
  obtain ⟨it, fp, tn, J, H2, e, I2, T, st2, f2, ⟨ps, hP, htr⟩, q2⟩ := h2
  subst e
  have hPs : s2.heap.get? P = some { cls := .none, data := .fields ps } := I2.hok P _ hP
  have hPlt : P < s2.heap.objs.size := Heap.lt_size hPs
  have cd : PySem.W.CodeHd s2.heap c P := TB.code.keeps I2.bk
  have sz : ∀ b ∈ fp, b < s2.heap.objs.size := fun b hb => by
    obtain ⟨o, e, _⟩ := T.obj _ _ st2 b hb
    exact Heap.lt_size e
  have nfP : ∀ b ∈ fp, b ≠ P := fun b hb e => by
    have := (f2 b hb).1
    rw [e, hP] at this
    cases this
  have cont : ∀ (code : Value) (h3 : Heap) (tk : Nat) (ps' : Array Value), Heap.ExtBut P s2.heap h3 → s2.heap.objs.size ≤ h3.objs.size → h3.get? P = some { cls := .none, data := .fields ps' } → (∃ more, ps' = ps ++ more) → TriplesOk ps'.toList →
      wpAny (model X.prog X.w) X.A (builtinsFor X.env.globals X.env.builtins) (fun bi s₄ =>
        ∀ h', h'.Ns s₄.heap.objs.size (fun y => if y = ".0" then some (.ref it) else none) → Heap.SameBut s₄.heap.objs.size (s₄.heap.push { cls := .type "frame", data := .dict #[] }) h' →
          Q' (.ref h'.objs.size) { s₄ with
            gens := s₄.gens.push (.fresh (.compStart (.GeneratorExp elt [⟨tg, iter, ifs, 0⟩] scope gpos) 0 (.ref it) .none (genEnv scope (cloFrom X.env.cells scope.names []) s₄.heap.objs.size code bi X.env))),
            toks := s₄.toks + 1 + 1 + 1,
            heap := h'.push { cls := .type "generator", data := .fields #[.int s₄.gens.size 0, .str "<genexpr>" (s₄.toks + 1), .str (X.env.qual ++ "<genexpr>") (s₄.toks + 1 + 1)] } }) X.xe { s2 with heap := h3, toks := tk } := by
    intro code h3 tk ps' hx hsz hP3 hmore ht3
    obtain ⟨bm, ob, e1, e2, e3, e4, e5, e6, e7, e8⟩ := TB.bm
    have keep3 : ∀ b u, b ≠ P → s2.heap.get? b = some u → h3.get? b = some u := fun b u hb e => hx b u hb e
    refine wpAny_builtinsFor (m := X.mg) (by rw [I2.ok.glob]; exact (I2.mod.glob.keeps I2.bk).extBut hx TB.gP) e1 e2 (keep3 _ _ e4 (I2.bk _ _ e5)) e6 e7 e8 ?_
    obtain ⟨more, em⟩ := hmore
    have I4 : Inv X pins σ (upd H2 P (.tbl (ps ++ more))) { s2 with heap := h3, toks := tk } :=
      GxR.inv_tab (g' := s2.gens) (d' := s2.drawn) I2 hP keep3 (by rw [← em]; exact hP3) I2.bare
    have tb : GxR.Tabbed P H2 (upd H2 P (.tbl (ps ++ more))) := ⟨⟨ps ++ more, upd_same, by rw [← em]; exact ht3⟩, fun b hb => upd_ne hb⟩
    obtain ⟨W, m, w0, hW⟩ := q2 _ tb
    generalize hH4 : upd H2 P (.tbl (ps ++ more)) = H4 at I4 w0 tb
    generalize hs4 : ({ s2 with heap := h3, toks := tk } : Shared) = s4 at I4 ⊢
    have h4 : s4.heap = h3 := by rw [← hs4]
    have g4 : s4.gens = s2.gens := by rw [← hs4]
    have f4 : ∀ b ∈ fp, FpOk X pins H4 b ∧ b < s4.heap.objs.size := fun b hb => by
      refine ⟨⟨?_, (f2 b hb).2⟩, by rw [h4]; exact Nat.lt_of_lt_of_le (sz b hb) hsz⟩
      rw [tb.2 b (nfP b hb)]
      exact (f2 b hb).1
    have st4 : tn 0 s4.heap := T.keep _ _ _ st2 fun b hb o e => by rw [h4]; exact keep3 b o (nfP b hb) e
    intro h' hn' hs'
    have hsz' : h'.objs.size = s4.heap.objs.size + 1 := by rw [hs'.1, Heap.size_push]
    have keep' : ∀ b o, s4.heap.get? b = some o → h'.get? b = some o := fun b o e => hs'.extBut b o (Nat.ne_of_lt (Heap.lt_size e)) (Heap.get?_push_of_some _ e)
    generalize hgo : ({ cls := .type "generator", data := .fields #[.int s4.gens.size 0, .str "<genexpr>" (s4.toks + 1), .str (X.env.qual ++ "<genexpr>") (s4.toks + 1 + 1)] } : Obj) = go
    have goG : ∀ h : Heap, h.get? h'.objs.size = some go → h.IsGen h'.objs.size s4.gens.size := fun h e => ⟨go, _, _, e, by rw [← hgo], by rw [← hgo], by rw [← hgo]⟩
    have hgetg : (h'.push go).get? h'.objs.size = some go := by
      rw [← hgo]
      exact Heap.get?_push_size _ rfl
    have hgd : ∀ v, go.data ≠ .cell v := fun v q => by rw [← hgo] at q; cases q
    have keep5 : ∀ b o, s4.heap.get? b = some o → (h'.push go).get? b = some o := fun b o e => Heap.get?_push_of_some _ (keep' b o e)
    generalize hc0 : (.compStart (.GeneratorExp elt [⟨tg, iter, ifs, 0⟩] scope gpos) 0 (.ref it) .none (genEnv scope (cloFrom X.env.cells scope.names []) s4.heap.objs.size code builtinsNs X.env) : Code) = c0
    have I5 : Inv (gxCx X (X.A.in1.in1.deeper (genEnv scope (cloFrom X.env.cells scope.names []) s4.heap.objs.size code builtinsNs X.env)) (own ++ caps) s4 H4 (genEnv scope (cloFrom X.env.cells scope.names []) s4.heap.objs.size code builtinsNs X.env) fp [(h'.objs.size, go)]) [] (gσ own cix σ) H4
        { s4 with gens := s4.gens.push (.fresh c0), toks := s4.toks + 1 + 1 + 1, heap := h'.push go } := by
      refine gx_start I4 S f4 hr.hd ?_ keep5 ⟨_, hn'.push _⟩ rfl (AllBare.push I4.bare rfl) (by omega) hgetg hgd
      show X.A.frames.map _ = _
      rw [I4.ok.frames]
      rfl
    have hr' : Room k (X.A.in1.in1.deeper (genEnv scope (cloFrom X.env.cells scope.names []) s4.heap.objs.size code builtinsNs X.env)) :=
      ⟨hr.hd, by have := hr.dp; show X.A.depth + 1 + 3 * k + 5 < _; omega, by have := hr.un; show X.A.units + 1 + 1 + 3 + 16 * k + 200 < _; omega⟩
    have hpn : ∀ p ∈ [(h'.objs.size, go)], p.1 ∉ fp := fun p hp hb => by
      rw [List.mem_singleton.mp hp] at hb
      have h6 := (f4 _ hb).2
      have h7 : (h'.objs.size : Nat) < s4.heap.objs.size := h6
      omega
    refine hQ (gxCx X (X.A.in1.in1.deeper (genEnv scope (cloFrom X.env.cells scope.names []) s4.heap.objs.size code builtinsNs X.env)) (own ++ caps) s4 H4 (genEnv scope (cloFrom X.env.cells scope.names []) s4.heap.objs.size code builtinsNs X.env) fp [(h'.objs.size, go)]) h'.objs.size go s4.gens.size (m + 1) _ H4 rfl rfl rfl goG I5 (fun s6 hg6 hk6 ho6 => ⟨.fresh c0, ?_, rfl, ?_⟩) fun s' H' v I' hv u ru => ?_
    · rw [hg6]
      exact Array.getElem?_push_size ..
    · have J6 := inv_gens (s' := s6.setGen s4.gens.size .running) I5 hk6 ho6 (allBare_setGen (by rw [hg6]; exact I5.bare) rfl)
      rw [← hc0]
      exact seg_gxS (A := X.A.in1.in1) rfl rfl hpn rfl rfl S.co T (hg _ _ _ _ _ _ _ _ _ hr') (ht _ _ _ _ _ _ _ _ _ hr') (he _ _ _ _ _ _ _ _ _ hr') hW (Nat.lt_succ_self m) J6 (T.keep _ _ _ st4 fun b hb o e => hk6 b o (keep5 b o e)) (fun b hb => (f4 b hb).1.1) w0
    · exact ⟨v, H', I4.call' (ch := fp) I'.os I'.base I'.hok I'.bare fun b hb => ⟨(f4 b hb).1.2.2.2.1, (f4 b hb).1.2.1, (f4 b hb).1.2.2.2.2.1, (f4 b hb).1.2.2.2.2.2⟩, ru, hv⟩
  refine ⟨I2.nolimit, ?_⟩
  cases hf : codeAmong gpos ps.toList with
  | none =>
    refine wpAny_genexprCodeX hcode (cd.code hPs htr) (cd.tab hPs) hf fun c' h' tk hx hge hlt hco' _ htab' _ => ?_
    obtain ⟨o1, vs, f1, tf, fl, tg', inF, tx, tt', op, _, _, _, _, _, _, _, _, _, htr', _⟩ := hco'
    exact cont _ h' tk _ hx (Nat.le_trans hge (Nat.le_of_lt hlt)) htab'.2 ⟨_, rfl⟩ htr'
  | some cv =>
    refine wpAny_genexprCode_hit hcode (cd.code hPs htr) hf ?_
    exact cont cv s2.heap s2.toks ps (Heap.ExtBut.refl _ _) (Nat.le_refl _) hPs ⟨#[], by simp⟩ htr

variable {c P : Addr} {elt tg iter : Expr} {ifs : List Expr} {p pos gpos : Pos} {scope : Scope} {own caps : List Str} {cix : List Nat} {wi : TI} {g : TG} {tt : TT} {te : TE} {k : Nat}
theorem pe_allG (hr : Room (k + 1) X.A) (hgl : Gl X "all") (hm : X.mg "all" = none) (TB : GxR.TabB X.base X.mg c P) (hcode : X.env.code = .ref c) (S : GxS X.env.scope X.N scope own caps cix) (hi : PI X tg iter wi)
    (hg : ∀ A s H C cl code bi fp pn, Room k A → PG (gxAt X own caps scope A s H C cl code bi fp pn) tg g) (ht : ∀ A s H C cl code bi fp pn, Room k A → PTs (gxAt X own caps scope A s H C cl code bi fp pn) ifs tt)
    (he : ∀ A s H C cl code bi fp pn, Room k A → PE (gxAt X own caps scope A s H C cl code bi fp pn) elt te)
    (hs : ∀ v, genFold iter X.env v = pure v := by intro _; rfl)
    (hst : starEach [.GeneratorExp elt [⟨tg, iter, ifs, 0⟩] scope gpos] X.env = (false, eval (.GeneratorExp elt [⟨tg, iter, ifs, 0⟩] scope gpos) X.env) :: starEach [] X.env := by rfl) :
    PE X (.Call (.Name "all" p) [.GeneratorExp elt [⟨tg, iter, ifs, 0⟩] scope gpos] [] pos) (tGx P wi g tt te own cix false) := by
  refine ⟨fun pins s σ H Q I h => ?_⟩
  refine wpAny_Call_Name_kw (ld_blt I hgl hm boot_all ?_)
  refine PyProof.Rows.callWith_builtin1 ?_ hst (by rfl)
  rw [hst]
  show wpAny _ _ (spliced ((false, eval (.GeneratorExp elt [⟨tg, iter, ifs, 0⟩] scope gpos) X.env) :: backTo pos (starEach [] X.env))) _ _ s
  refine Calls.spliced_cons (gx_make hr TB hcode S hi hg ht he hs I h fun Y a go gi n s5 H5 eP ew hp goG I5 hgoes hback => ?_)
  refine Calls.spliced_nil ?_
  have hd := hr.depth
  refine call_function_tree F.kind_all F.plain_all F.entry_all (F.args_all1 _) ?_
  unfold Builtin.«all»
  refine wpAny_bind (m := oneArg "all" _) (wpAny_pure ?_)
  refine wpAny_bind (wpAny_pyIter_gen (s := s5) (pin_gen hp goG I5) ?_)
  refine wpAny_pure ⟨plainId_quiet F.plain_all_loop _, ?_⟩
  rw [← eP, ← ew] at hgoes ⊢
  refine codeAny_mono (all_gx (A := X.A) hp goG hr.hd hd n s5 H5 I5 (hgoes s5 rfl (fun _ _ z => z) rfl)) fun r s' ⟨b, H', er, I', q'⟩ => ?_
  subst er
  exact hback s' H' (.bl b) I' q' _ rfl
theorem pe_anyG (hr : Room (k + 1) X.A) (hgl : Gl X "any") (hm : X.mg "any" = none) (TB : GxR.TabB X.base X.mg c P) (hcode : X.env.code = .ref c) (S : GxS X.env.scope X.N scope own caps cix) (hi : PI X tg iter wi)
    (hg : ∀ A s H C cl code bi fp pn, Room k A → PG (gxAt X own caps scope A s H C cl code bi fp pn) tg g) (ht : ∀ A s H C cl code bi fp pn, Room k A → PTs (gxAt X own caps scope A s H C cl code bi fp pn) ifs tt)
    (he : ∀ A s H C cl code bi fp pn, Room k A → PE (gxAt X own caps scope A s H C cl code bi fp pn) elt te)
    (hs : ∀ v, genFold iter X.env v = pure v := by intro _; rfl)
    (hst : starEach [.GeneratorExp elt [⟨tg, iter, ifs, 0⟩] scope gpos] X.env = (false, eval (.GeneratorExp elt [⟨tg, iter, ifs, 0⟩] scope gpos) X.env) :: starEach [] X.env := by rfl) :
    PE X (.Call (.Name "any" p) [.GeneratorExp elt [⟨tg, iter, ifs, 0⟩] scope gpos] [] pos) (tGx P wi g tt te own cix true) := by
  refine ⟨fun pins s σ H Q I h => ?_⟩
  refine wpAny_Call_Name_kw (ld_blt I hgl hm boot_any ?_)
  refine PyProof.Rows.callWith_builtin1 ?_ hst (by rfl)
  rw [hst]
  show wpAny _ _ (spliced ((false, eval (.GeneratorExp elt [⟨tg, iter, ifs, 0⟩] scope gpos) X.env) :: backTo pos (starEach [] X.env))) _ _ s
  refine Calls.spliced_cons (gx_make hr TB hcode S hi hg ht he hs I h fun Y a go gi n s5 H5 eP ew hp goG I5 hgoes hback => ?_)
  refine Calls.spliced_nil ?_
  have hd := hr.depth
  refine call_function_tree F.kind_any F.plain_any F.entry_any (F.args_any1 _) ?_
  unfold Builtin.«any»
  refine wpAny_bind (m := oneArg "any" _) (wpAny_pure ?_)
  refine wpAny_bind (wpAny_pyIter_gen (s := s5) (pin_gen hp goG I5) ?_)
  refine wpAny_pure ⟨plainId_quiet F.plain_any_loop _, ?_⟩
  rw [← eP, ← ew] at hgoes ⊢
  refine codeAny_mono (any_gx (A := X.A) hp goG hr.hd hd n s5 H5 I5 (hgoes s5 rfl (fun _ _ z => z) rfl)) fun r s' ⟨b, H', er, I', q'⟩ => ?_
  subst er
  exact hback s' H' (.bl b) I' q' _ rfl
end
end Gx
set_option Elab.async false
set_option linter.all false
set_option maxRecDepth 100000
set_option maxHeartbeats 2000000
namespace Gx
open PySem PySem.Spec PyProof.Rows L2 RT
section
variable {prog : Program} {w : World} {A : Around} {E : Value → Shared → Prop} {s : Shared}
/-- list(a list's reverse iterator) -/
theorem call_list_rev {it l : Addr} {items : Array Value} {Q : Value → Shared → Prop} (hh : A.handled = none) (hit : s.heap.IsRevIter it l ((items.size : Int) - 1)) (hl : s.heap.IsList l items) (hne : l ≠ it) (hn : items.size ≤ sizeLine)
    (hQ : ∀ (h' : Heap) (tk : Nat) (acc : Array Value) (c : Nat), (∀ b o, b ≠ it → s.heap.get? b = some o → h'.get? b = some o) → h'.get? s.heap.objs.size = some { cls := .type "list", dict := none, data := .seq acc c, slots := #[] } →
      ItemsOf (fun i v => items[items.size - 1 - i]? = some v) acc items.size → Q (.ref s.heap.objs.size) { s with heap := h', toks := tk }) :
    wpAny (model prog w) A (call (.type "list") [.ref it]) Q E s := by
  obtain ⟨oi, hoi, _⟩ := id hit
  obtain ⟨ol, hol, _⟩ := id hl
  have hSi : s.heap.objs.size ≠ it := Nat.ne_of_gt (Heap.lt_size hoi)
  have hSl : s.heap.objs.size ≠ l := Nat.ne_of_gt (Heap.lt_size hol)
  have hSf : s.heap.objs.size ∉ [it, l] := by simp only [List.mem_cons, List.not_mem_nil, or_false, not_or]; exact ⟨hSi, hSl⟩
  refine callType_codes (Q₁ := fun obj s₁ => obj = .ref s.heap.objs.size ∧ s₁ = { s with heap := s.heap.push { cls := .type "list", data := .seq #[] } }) F.called_list (F.typeCall_list_1 _) F.entry_list_init (code_list_new _ ⟨rfl, rfl⟩) fun obj s₁ h₁ => ?_
  obtain ⟨rfl, rfl⟩ := h₁
  have hS : (s.heap.push { cls := .type "list", data := .seq #[] }).get? s.heap.objs.size = some { cls := .type "list", data := .seq #[] } := Heap.get?_push_size _ rfl
  refine ⟨⟨_, hS, rfl⟩, F.args_list_init_2 _ _, ?_⟩
  have W := (Walks.listRev (prog := prog) (w := w) (A := A.in1.in1) hh it l hne items).toS
  show wpAny _ A.in1.in1 (do let old ← Builtin.List.listItems (.ref s.heap.objs.size); Builtin.List.listUpdate (.ref s.heap.objs.size) (fun _ => #[]); letGo old.toList.reverse; Builtin.List.listExtendWith (.ref s.heap.objs.size) (.ref it) .none) _ _ _
  refine wpAny_bind ?_
  unfold Builtin.List.listItems
  refine wpAny_bind (wpAny_seqItems hS rfl (wpAny_pure ?_))
  show wpAny _ A.in1.in1 (updateSeq s.heap.objs.size (fun _ => #[]) >>= fun _ => letGo (#[] : Array Value).toList.reverse >>= fun _ => Builtin.List.listExtendWith (.ref s.heap.objs.size) (.ref it) .none) _ _ _
  refine wpAny_bind (wpAny_updateSeq hS rfl ?_)
  have hS2 := Heap.get?_update_self (Obj.mapSeq (fun _ => (#[] : Array Value))) hS rfl
  refine wpAny_bind (wpAny_letGo ?_)
  have k1 : ∀ b o, s.heap.get? b = some o → (s.heap.push { cls := .type "list", data := .seq #[] }).get? b = some o := fun b o e => Heap.get?_push_of_some _ e
  have k2 : ∀ b o, s.heap.get? b = some o → ((s.heap.push { cls := .type "list", data := .seq #[] }).update s.heap.objs.size (Obj.mapSeq (fun _ => (#[] : Array Value)))).get? b = some o := fun b o e =>
    (Heap.get?_update_other _ _ (Ne.symm (Nat.ne_of_lt (Heap.lt_size e)))).trans (k1 b o e)
  generalize hH2 : (s.heap.push { cls := .type "list", data := .seq #[] }).update s.heap.objs.size (Obj.mapSeq (fun _ => (#[] : Array Value))) = H2 at hS2 k2
  have hit1 : H2.IsRevIter it l ((items.size : Int) - 1) := hit.at fun o e => k2 _ o e
  have hl1 : H2.IsList l items := by
    obtain ⟨o, ho, r⟩ := hl
    exact ⟨o, k2 _ _ ho, r⟩
  have hT : ({ s with heap := H2 } : Shared).TypeIs (.ref it) "list_reverseiterator" := Heap.IsRevIter.typeIs (s := { s with heap := H2 }) hit1
  have h1 : Builtin.List.listSameRef (.ref s.heap.objs.size) (.ref it) = false := by simp [Builtin.List.listSameRef, hSi]
  unfold Builtin.List.listExtendWith
  refine wpAny_bind (wpAny_typeOf hT ?_)
  rw [if_neg (by rw [h1]; decide)]
  refine wpAny_bind (wpAny_pyIter_revIter (s := { s with heap := H2 }) hit1 ?_)
  refine wpAny_bind (wpAny_holding ?_)
  unfold Builtin.List.listLengthHint
  refine wpAny_bind (wpAny_specialOf hT nolen_lri ?_)
  show wpAny _ A.in1.in1 (specialOf (Value.ref it) (Str.ofString "__length_hint__") >>= _) _ _ _
  refine wpAny_bind (wpAny_specialOf hT hint_lri ?_)
  generalize hid : ("list_reverseiterator.__length_hint__" : String) = id0
  wp_delta
  rw [show splitId id0 = some ("list_reverseiterator", "__length_hint__") from by subst hid; decide +kernel]
  subst hid
  refine wpAny_bind (wpAny_isInstance (b := true) hT (by rw [isSubtype_type]; kernel_rfl) ?_)
  refine wpAny_pure ?_
  rw [if_neg (by decide)]
  have e0 : ((items.size : Nat) : Int) - 1 - ((0 : Nat) : Int) = (items.size : Int) - 1 := by omega
  refine wpAny_pure ⟨plainId_quiet F.plain_extend_loop _, codeAny_extend_loopS (A := A.in1) W hn _ hSf _ items.size 0 _ _ _ rfl (Nat.zero_le _) ⟨Nat.zero_le _, by rw [e0]; exact hit1, hl1⟩ hS2 (ItemsOf.nil _) fun s' acc' c' hm hS' hacc => ?_⟩
  rw [Moved.eq_with hm]
  refine ⟨rfl, hQ s'.heap s'.toks acc' c' (fun b o hb e => hm.heap b o (fun hmem => ?_) (k2 b o e)) hS' hacc⟩
  rcases List.mem_cons.mp hmem with e' | hmem
  · exact absurd (Heap.lt_size e) (by rw [e']; exact Nat.lt_irrefl _)
  · exact hb (List.mem_singleton.mp hmem)
end
section
variable {X : Cx}
/-- list(reversed(a list)) -/
def tListRev (K : PySem.W.Frag) (te : TE) : TE := fun σ H Q => te σ H fun v H1 => ∃ (a : Addr) (xs : List V), v = .ref a ∧ SqL K H1 a xs ∧ ∀ q, H1 q = none → Q (.ref q) (upd H1 q (.lst xs.reverse))
theorem pe_listRev {e : Expr} {te : TE} {p p2 pos pos2 : Pos} (hc : X.calm = true) (hg : Gl X "list") (hm : X.mg "list" = none) (hg2 : Gl X "reversed") (hm2 : X.mg "reversed" = none) (he : PE X e te)
    (hs : starEach [e] X.env = (false, eval e X.env) :: starEach [] X.env := by rfl)
    (hs2 : starEach [.Call (.Name "reversed" p2) [e] [] pos2] X.env = (false, eval (.Call (.Name "reversed" p2) [e] [] pos2) X.env) :: starEach [] X.env := by rfl) :
    PE X (.Call (.Name "list" p) [.Call (.Name "reversed" p2) [e] [] pos2] [] pos) (tListRev X.K te) := by
  refine ⟨fun pins s σ H Q I h => ?_⟩
  refine Call_ (ld_blt I hg hm boot_list (PyProof.Rows.callWith_type1 (args_cons (Call_ (ld_blt I hg2 hm2 PyProof.Rows.boot_reversed (PyProof.Rows.callWith_type1 (args_cons (thn (he.run pins s σ H _ I h) fun u s1 ⟨v, H1, I1, r1, q1⟩ => args_nil ?_) hs) hs rfl))) hs2) hs2 rfl))
  obtain ⟨a, xs, ev, hq, q⟩ := q1
  subst ev
  obtain rfl : u = Value.ref a := r1
  obtain ⟨its, rv, p', hz⟩ := I1.list hq
  refine call_reversed_list p'.isList (args_nil ?_)
  have k0 : ∀ b o, s1.heap.get? b = some o → (s1.heap.push (revObj a ((its.toArray.size : Int) - 1))).get? b = some o := fun b o e => Heap.get?_push_of_some _ e
  have I2 : Inv X pins σ H1 { s1 with heap := s1.heap.push (revObj a ((its.toArray.size : Int) - 1)) } := I1.kept (t' := s1.toks) k0
  obtain ⟨f0, f1, f2, f3, f4, f5⟩ := I1.fpOk (H' := H1) (b := s1.heap.objs.size) (Nat.le_refl _) (I1.hok.fresh (Nat.le_refl _))
  have hl := p'.isList
  obtain ⟨ol, hol, _⟩ := id hl
  have hne : a ≠ s1.heap.objs.size := Nat.ne_of_lt (Heap.lt_size hol)
  have hn : its.toArray.size ≤ sizeLine := by rw [List.size_toArray, ← rv.length]; exact hz
  have hsz : (s1.heap.push (revObj a ((its.toArray.size : Int) - 1))).objs.size = s1.heap.objs.size + 1 := Heap.size_push ..
  refine call_list_rev (s := { s1 with heap := s1.heap.push (revObj a ((its.toArray.size : Int) - 1)) }) (I1.ok.hd hc) ⟨_, Heap.get?_push_size _ rfl, rfl, rfl⟩ (hl.push _) hne hn fun h' tk acc c hk hget hi => ?_
  have hD : H1 (s1.heap.push (revObj a ((its.toArray.size : Int) - 1))).objs.size = none := I1.hok.fresh (by rw [hsz]; omega)
  have J : Inv X pins σ H1 { s1 with heap := h', toks := tk } := I2.turned (t' := tk) (fun b o hb e => hk b o hb e) f0 f1 f3 f4 f5
  have I3 : Inv X pins σ (upd H1 (s1.heap.push (revObj a ((its.toArray.size : Int) - 1))).objs.size (.lst xs.reverse)) { s1 with heap := h', toks := tk } := by
    refine I2.drained (ex := [s1.heap.objs.size]) (Nat.le_refl _) (by rw [List.length_reverse]; exact hz) hget (vals_rev rv hi) (fun b hb => ?_) rfl I1.bare ⟨fun b o e n _ hx => ?_, fun b o e n _ hx => ⟨o.slots, ?_⟩, fun b o e n _ => n, fun b o e hx => ⟨o, ?_⟩, fun _ _ e => e, fun _ _ _ e => e, fun b ps e => ⟨#[], by rw [e]; simp⟩⟩ J.hok hD
    · rw [List.mem_singleton.mp hb]
      exact ⟨f3, f1, f4, f5⟩
    · exact hk b o (fun z => hx (by rw [z]; exact List.mem_singleton.mpr rfl)) e
    · exact hk b o (fun z => hx (by rw [z]; exact List.mem_singleton.mpr rfl)) e
    · exact hk b o (fun z => hx (by rw [z]; exact List.mem_singleton.mpr rfl)) e
  exact ⟨.ref _, _, I3, rfl, q _ hD⟩
/-- list(a text): its signs -/
def rListStr : List V → Hp → VK → Prop := fun xs H Q => ∃ z : Str, xs = [.str z] ∧ z.length ≤ sizeLine ∧ ∀ q, H q = none → Q (.ref q) (upd H q (.lst (z.cps.toList.map fun c => V.str ⟨#[c]⟩)))
theorem call_listStr (hc : X.calm = true) : CallR X (.type "list") rListStr := by
  intro pins s σ H xs us Q I r h
  obtain ⟨z, rfl, hz, q⟩ := h
  cases r with
  | cons r rr =>
    cases rr
    obtain ⟨t, rfl⟩ := r
    refine call_list_str (hn := hz) (I.ok.hd hc) z t fun h' tk acc c hk hget hi => ?_
    have hD : H s.heap.objs.size = none := I.hok.fresh (Nat.le_refl _)
    refine ⟨.ref s.heap.objs.size, _, I.laid (o := .lst (z.cps.toList.map fun c => V.str ⟨#[c]⟩)) (t' := tk) hk (Nat.le_refl _) ⟨by rw [List.length_map, Array.length_toList]; exact hz, acc.toList, c, ?_, by rw [hget]⟩, rfl, q _ hD⟩
    refine vals_of_at ?_ fun j x u e1 e2 => ?_
    · rw [List.length_map]
      have := hi.1
      simp [this]
    · rw [Array.getElem?_toList] at e2
      obtain ⟨c1, t1, e3, e4⟩ := hi.2 j u e2
      rw [List.getElem?_map, Array.getElem?_toList, e3] at e1
      cases e1
      exact ⟨t1, e4⟩
end
end Gx
set_option Elab.async false
set_option linter.all false
set_option maxRecDepth 100000
set_option maxHeartbeats 2000000
namespace Gx
open PySem PySem.Spec PyProof.Rows L2

/-! ### walks of a generator expression -/
section
variable {K : PySem.W.Frag} {g : TG} {tt : TT} {te : TE} {σ' : L2.St} {q : Bool} {Q : VK} {H : Hp}
def gxTurn (g : TG) (tt : TT) (te : TE) (σ' : L2.St) (q : Bool) (Q : VK) (x : V) (H : Hp) (N : Hp → Prop) : Prop := g x σ' H fun σ2 H2 => Wk σ' σ2 ∧ tt σ2 H2 fun b H3 =>
    if b = true then te σ2 H3 fun y H4 => ∃ c, y = .bl c ∧ (if c = q then Q (.bl q) H4 else N H4) else N H3
theorem gx_by {J : It} {n : Nat} (Pv : Nat → Hp → Prop) (h0 : Pv 0 H) (hgo : ∀ i H, i < n → Pv i H → J.go i H) (hst : ∀ H, Pv n H → J.stop n H)
    (hs : ∀ i x H H', i < n → Pv i H → J.yld i H x H' → gxTurn g tt te σ' q Q x H' (Pv (i + 1))) (hd : ∀ H, Pv n H → Q (.bl (!q)) H) :
    ∃ (W : Nat → Nat → Hp → Prop) (m : Nat), W 0 m H ∧ gxW J g tt te σ' q Q W := by
  refine ⟨fun i m H => m = n - i ∧ i ≤ n ∧ Pv i H, n, ⟨by omega, Nat.zero_le _, h0⟩, ?_⟩
  rintro i m H ⟨rfl, hi, p⟩
  by_cases hlt : i < n
  · refine .inr ⟨hgo i H hlt p, Pv (i + 1), fun H' p' => ⟨n - (i + 1), by omega, rfl, by omega, p'⟩, fun x H' y => ?_⟩
    exact hs i x H H' hlt p y
  · have e : i = n := by omega
    subst e
    exact .inl ⟨hst H p, hd H p⟩
/-- over a text -/
theorem gx_str {x : Str} (Pv : Nat → Hp → Prop) (h0 : Pv 0 H) (hs : ∀ (i c : Nat) H, x.cps[i]? = some c → Pv i H → gxTurn g tt te σ' q Q (.str ⟨#[c]⟩) H (Pv (i + 1))) (hd : ∀ H, Pv x.cps.size H → Q (.bl (!q)) H) :
    ∃ (W : Nat → Nat → Hp → Prop) (m : Nat), W 0 m H ∧ gxW (Its x) g tt te σ' q Q W :=
  gx_by (n := x.cps.size) Pv h0 (fun i H h _ => h) (fun H _ => Nat.le_refl _) (fun i v H H' h p ⟨e1, c, e2, e3⟩ => by subst e1 e3; exact hs i c _ e2 p) hd
/-- over a list that stays -/
theorem gx_list {a : Addr} {xs : List V} (Pv : Nat → Hp → Prop) (h0 : Pv 0 H) (hl : ∀ i H, Pv i H → SqL K H a xs) (hs : ∀ (i : Nat) v H, xs[i]? = some v → Pv i H → gxTurn g tt te σ' q Q v H (Pv (i + 1))) (hd : ∀ H, Pv xs.length H → Q (.bl (!q)) H) :
    ∃ (W : Nat → Nat → Hp → Prop) (m : Nat), W 0 m H ∧ gxW (Itl K a) g tt te σ' q Q W :=
  gx_by (n := xs.length) Pv h0 (fun i H h p => ⟨xs, xs[i], hl i H p, by simp [h]⟩) (fun H p => ⟨xs, hl _ H p, Nat.le_refl _⟩) (fun i v H H' h p ⟨e1, e2⟩ => by subst e1; exact hs i v _ (e2 xs (hl i _ p)) p) hd
theorem gx_tup {a : Addr} {xs : List V} (Pv : Nat → Hp → Prop) (h0 : Pv 0 H) (hl : ∀ i H, Pv i H → SqT K H a xs) (hs : ∀ (i : Nat) v H, xs[i]? = some v → Pv i H → gxTurn g tt te σ' q Q v H (Pv (i + 1))) (hd : ∀ H, Pv xs.length H → Q (.bl (!q)) H) :
    ∃ (W : Nat → Nat → Hp → Prop) (m : Nat), W 0 m H ∧ gxW (Itt K a) g tt te σ' q Q W :=
  gx_by (n := xs.length) Pv h0 (fun i H h p => ⟨xs, xs[i], hl i H p, by simp [h]⟩) (fun H p => ⟨xs, hl _ H p, Nat.le_refl _⟩) (fun i v H H' h p ⟨e1, e2⟩ => by subst e1; exact hs i v _ (e2 xs (hl i _ p)) p) hd
theorem gx_rng {lo : Int} {n : Nat} (Pv : Nat → Hp → Prop) (h0 : Pv 0 H) (hs : ∀ (i : Nat) H, i < n → Pv i H → gxTurn g tt te σ' q Q (.int (lo + i)) H (Pv (i + 1))) (hd : ∀ H, Pv n H → Q (.bl (!q)) H) :
    ∃ (W : Nat → Nat → Hp → Prop) (m : Nat), W 0 m H ∧ gxW (Itr lo n) g tt te σ' q Q W :=
  gx_by (n := n) Pv h0 (fun i H h _ => h) (fun H _ => Nat.le_refl _) (fun i v H H' h p ⟨e1, e3⟩ => by subst e1 e3; exact hs i _ h p) hd
end

/-! ### a for over a text; a comprehension over a text -/
theorem for_str {x : Str} {g : TG} {tb : TS} {D : Ends} {σ : L2.St} {H : Hp} (Pv : Nat → L2.St → Hp → Prop) (h0 : Pv 0 σ H)
    (hs : ∀ (i c : Nat) σ H, x.cps[i]? = some c → Pv i σ H → g (.str ⟨#[c]⟩) σ H fun σ2 H2 => tb { D with nx := Pv (i + 1), ct := Pv (i + 1), bk := D.nx } σ2 H2) (hd : ∀ σ H, Pv x.cps.size σ H → D.nx σ H) :
    ∃ W : Nat → Nat → L2.St → Hp → Prop, (∃ m, W 0 m σ H) ∧ ∀ i m σ H, W i m σ H →
      ((Its x).stop i H ∧ D.nx σ H) ∨ ((Its x).go i H ∧ ∃ N : L2.St → Hp → Prop, (∀ σ' H', N σ' H' → ∃ m', m' < m ∧ W (i + 1) m' σ' H') ∧ ∀ v H', (Its x).yld i H v H' → g v σ H' fun σ2 H2 => tb { D with nx := N, ct := N, bk := D.nx } σ2 H2) := by
  refine ⟨fun i m σ H => m = x.cps.size - i ∧ i ≤ x.cps.size ∧ Pv i σ H, ⟨x.cps.size, by omega, Nat.zero_le _, h0⟩, ?_⟩
  rintro i m σ H ⟨rfl, hi, p⟩
  by_cases hlt : i < x.cps.size
  · refine .inr ⟨hlt, Pv (i + 1), fun σ' H' p' => ⟨x.cps.size - (i + 1), by omega, rfl, hlt, p'⟩, fun v H' ⟨e1, c, e2, e3⟩ => ?_⟩
    subst e1 e3
    exact hs i c σ _ e2 p
  · have e : i = x.cps.size := by omega
    subst e
    exact .inl ⟨Nat.le_refl _, hd σ H p⟩
theorem lc_str {x : Str} {g : TG} {tt : TT} {te : TE} {vs : List Nat} {σ : L2.St} {H1 : Hp} {D : Addr} {Qd : Hp → Prop} (Pv : Nat → Hp → Prop) (h0 : Pv 0 (upd H1 D (.lst [])))
    (hs : ∀ (i c : Nat) H, x.cps[i]? = some c → Pv i H → g (.str ⟨#[c]⟩) (wipe σ vs) H fun σ2 H2 => wipe σ2 vs = wipe σ vs ∧ tt σ2 H2 fun b H3 =>
      if b = true then te σ2 H3 fun y H4 => ∃ acc, H4 D = some (.lst acc) ∧ acc.length < sizeLine ∧ Pv (i + 1) (upd H4 D (.lst (acc ++ [y]))) else Pv (i + 1) H3) (hd : ∀ H, Pv x.cps.size H → Qd H) :
    ∃ W : Nat → Nat → Hp → Prop, (∃ m, W 0 m (upd H1 D (.lst []))) ∧ ∀ i m H, W i m H →
      ((Its x).stop i H ∧ Qd H) ∨ ((Its x).go i H ∧ ∃ Nx : Hp → Prop, (∀ H', Nx H' → ∃ m', m' < m ∧ W (i + 1) m' H') ∧ ∀ v H', (Its x).yld i H v H' → g v (wipe σ vs) H' fun σ2 H2 => wipe σ2 vs = wipe σ vs ∧ tt σ2 H2 fun b H3 =>
        if b = true then te σ2 H3 fun y H4 => ∃ acc, H4 D = some (.lst acc) ∧ acc.length < sizeLine ∧ Nx (upd H4 D (.lst (acc ++ [y]))) else Nx H3) := by
  refine ⟨fun i m H => m = x.cps.size - i ∧ i ≤ x.cps.size ∧ Pv i H, ⟨x.cps.size, by omega, Nat.zero_le _, h0⟩, ?_⟩
  rintro i m H ⟨rfl, hi, p⟩
  by_cases hlt : i < x.cps.size
  · refine .inr ⟨hlt, Pv (i + 1), fun H' p' => ⟨x.cps.size - (i + 1), by omega, rfl, hlt, p'⟩, fun v H' ⟨e1, c, e2, e3⟩ => ?_⟩
    subst e1 e3
    exact hs i c _ e2 p
  · have e : i = x.cps.size := by omega
    subst e
    exact .inl ⟨Nat.le_refl _, hd H p⟩

/-! ### what stays -/
/-- tables stay tables; all else that was tracked stays -/
structure Xt (H H' : Hp) : Prop where
  keep : ∀ b o, H b = some o → (∀ ps, o ≠ .tbl ps) → H' b = some o
  tab : ∀ P ps, H P = some (.tbl ps) → ∃ ps', H' P = some (.tbl ps') ∧ (TriplesOk ps.toList → TriplesOk ps'.toList)
theorem Xt.refl (H : Hp) : Xt H H := ⟨fun _ _ h _ => h, fun _ ps h => ⟨ps, h, id⟩⟩
theorem Xt.trans {H H1 H2 : Hp} (a : Xt H H1) (b : Xt H1 H2) : Xt H H2 := ⟨fun c o h n => b.keep c o (a.keep c o h n) n, fun P ps h => by
  obtain ⟨p1, e1, f1⟩ := a.tab P ps h
  obtain ⟨p2, e2, f2⟩ := b.tab P p1 e1
  exact ⟨p2, e2, fun z => f2 (f1 z)⟩⟩
theorem Xt.tabG {H H' : Hp} (x : Xt H H') {P : Addr} (h : GxR.TabG H P) : GxR.TabG H' P := by
  obtain ⟨ps, e, t⟩ := h
  obtain ⟨ps', e', f⟩ := x.tab P ps e
  exact ⟨ps', e', f t⟩
theorem Xt.new {H : Hp} {p : Addr} {o : HO} (h : H p = none) : Xt H (upd H p o) := ⟨fun b u e _ => by rw [upd_ne (ne_of_none e h)]; exact e, fun P ps e => ⟨ps, by rw [upd_ne (ne_of_none e h)]; exact e, id⟩⟩
/-- an object that H does not know may change -/
theorem Xt.mut {H H' : Hp} {p : Addr} {o : HO} (e : Xt H H') (h : H p = none) : Xt H (upd H' p o) := ⟨fun a u ha n => by
  rw [upd_ne (ne_of_none ha h)]
  exact e.keep a u ha n, fun P ps hP => by
  rw [upd_ne (ne_of_none hP h)]
  exact e.tab P ps hP⟩
theorem Xt.tabbed {H H' : Hp} {P : Addr} (hP : GxR.TabG H P) (t : GxR.Tabbed P H H') : Xt H H' := by
  refine ⟨fun b o e n => ?_, fun Q ps hQ => ?_⟩
  · by_cases hb : b = P
    · subst hb
      obtain ⟨ps, e2, _⟩ := hP
      rw [e] at e2; exact absurd (Option.some.inj e2) (n ps)
    · rw [t.2 b hb]
      exact e
  · by_cases h : Q = P
    · subst h
      obtain ⟨ps', e', t'⟩ := t.1
      exact ⟨ps', e', fun _ => t'⟩
    · exact ⟨ps, by rw [t.2 Q h]; exact hQ, id⟩
theorem Xt.lst {H H' : Hp} (x : Xt H H') {a : Addr} {xs : List V} (h : H a = some (.lst xs)) : H' a = some (.lst xs) := x.keep a _ h fun _ => nofun
theorem Xt.tup {H H' : Hp} (x : Xt H H') {a : Addr} {xs : List V} (h : H a = some (.tup xs)) : H' a = some (.tup xs) := x.keep a _ h fun _ => nofun
theorem Xt.free {H H' : Hp} (x : Xt H H') {a : Addr} (h : H' a = none) : H a = none := by
  cases q : H a with
  | none => rfl
  | some o =>
    by_cases ht : ∃ ps, o = .tbl ps
    · obtain ⟨ps, rfl⟩ := ht
      obtain ⟨ps', e', _⟩ := x.tab a ps q
      rw [h] at e'; cases e'
    · rw [x.keep a o q (fun ps e => ht ⟨ps, e⟩)] at h; cases h
theorem Xt.rd {H H' : Hp} (x : Xt H H') {a : Addr} {u : HO} (hu : ∀ ps, u ≠ .tbl ps) (h : Rd H a u) : Rd H' a u := by
  rcases h with h | ⟨o, h⟩
  · exact .inl (x.keep a _ h hu)
  · exact .inr ⟨o, x.keep a _ h fun _ => nofun⟩
theorem Xt.sqL {K : PySem.W.Frag} {H H' : Hp} (x : Xt H H') {a : Addr} {xs : List V} (h : SqL K H a xs) : SqL K H' a xs := by
  rcases h with h | h
  · exact .inl (x.rd (fun _ => nofun) h)
  · exact .inr h
theorem Xt.sqT {K : PySem.W.Frag} {H H' : Hp} (x : Xt H H') {a : Addr} {xs : List V} (h : SqT K H a xs) : SqT K H' a xs := by
  rcases h with h | h
  · exact .inl (x.rd (fun _ => nofun) h)
  · exact .inr h

/-! ### a def whose code object is known -/
structure FunT (K : PySem.W.Frag) (x : Str) (st : Stmt) (f : Addr) (fd : FuncData) (c : Addr) : Prop where
  ex : ∃ (oc : Value) (od : Option Addr) (kV doc pm : Value) (an : Option Addr) (ct : Value) (osl : Array (Option Value)),
    fd = PySem.W.fnOf x x (defArgs st) (defBody st) (defScope st) .none kV doc pm an (.ref c) ct ∧ K.lookup f = some ⟨oc, od, .func fd, osl⟩ ∧ PySem.W.codeIn K (.ref c) x = true
  kp : PySem.W.keepIn K (.ref f) = true
section
variable {P : Program} {w : World} {K : PySem.W.Frag} {mg : Str → Option Value} {base : Heap}
theorem FunT.toFun {x : Str} {st : Stmt} {f c : Addr} {fd : FuncData} (F : FunT K x st f fd c) : Fun K x x st f fd := by
  obtain ⟨oc, od, kV, doc, pm, an, ct, osl, e, lk, hcd⟩ := F.ex
  exact ⟨⟨oc, od, kV, doc, pm, an, _, ct, osl, e, lk, hcd⟩, F.kp⟩
/-- a def that lets no exception out, by its body; its code object is c -/
theorem FunT.ok {x : Str} {st : Stmt} {f c : Addr} {fd : FuncData} {N ps : List Str} {k : Nat} {sp : Sp} (F : FunT K x st f fd c) (S : FnScope N ps (defScope st)) (len : ∀ vs H Q E, sp vs H Q E → vs.length = ps.length)
    (hbody : ∀ (A : Around) (outer : List Env) (s : Shared) (H : Hp) (vs : List V) (Q : VK) (E : XK), Room k (A.deeper (envOfC x (defScope st) s.heap.objs.size f (.ref c))) → sp vs H Q E →
      ∃ t, PSs (cxOf CX0 P w K mg base N x (defScope st) f (.ref c) A outer s H E).nox (defBody st) t ∧ t { nx := fun _ H' => Q .non H', rt := Q } (start N vs) H) : FnOk P w K mg base CX0 (k + 1) f fd ps sp := by
  obtain ⟨oc, od, kV, doc, pm, an, ct, osl, rfl, lk, hcd⟩ := F.ex
  refine fn_of lk hcd S len fun A outer s H vs Q E hr hsp => ?_
  obtain ⟨t, h, q⟩ := hbody A outer s H vs Q E hr hsp
  exact ⟨t, h.nox, q⟩
end
end Gx
namespace Gx
open PySem PySem.Spec PyProof.Rows L2
/-- a module's constant -/
theorem pe_gcon {X : Cx} {x : Str} {v : V} {pos : Pos} (hg : Gl X x) (h : ∃ u, X.mg x = some u ∧ RelV v u) (hd : (x == ("__debug__" : Str)) = false := by decide) : PE X (.Name x pos) (tC v) := by
  obtain ⟨u, h1, h2⟩ := h
  exact pe_glob hg h1 h2 hd
end Gx
namespace Gx
open PySem PySem.Spec PyProof.Rows L2
theorem ndw {own caps : List Str} (h : (own ++ caps).Nodup) : (own ++ caps).Nodup := h
theorem wk_set {σ' : L2.St} {j : Nat} {x : V} (h : σ'[j]? = some none) : Wk σ' (σ'.set j (some x)) := by
  refine ⟨(List.length_set ..).symm, fun i v e => ?_⟩
  by_cases hj : j = i
  · subst hj; rw [h] at e; cases e
  · rw [List.getElem?_set_ne hj]; exact e
end Gx
set_option Elab.async false
set_option linter.all false
set_option maxRecDepth 100000
set_option maxHeartbeats 2000000
namespace Gx
open PySem PySem.Spec PyProof.Rows L2
/-! ### all and any, by what a turn is worth -/
theorem take_all_succ {α : Type} {l : List α} {p : α → Bool} {i : Nat} {c : α} (h : l[i]? = some c) : (l.take (i + 1)).all p = ((l.take i).all p && p c) := by
  rw [List.take_add_one, h, List.all_append]
  simp
theorem all_false_at {α : Type} {l : List α} {p : α → Bool} {i : Nat} {c : α} (h : l[i]? = some c) (hc : p c = false) : l.all p = false := by
  rw [List.all_eq_false]
  exact ⟨c, List.mem_of_getElem? h, by simp [hc]⟩
theorem take_any_succ {α : Type} {l : List α} {p : α → Bool} {i : Nat} {c : α} (h : l[i]? = some c) : (l.take (i + 1)).any p = ((l.take i).any p || p c) := by
  rw [List.take_add_one, h, List.any_append]
  simp
theorem any_true_at {α : Type} {l : List α} {p : α → Bool} {i : Nat} {c : α} (h : l[i]? = some c) (hc : p c = true) : l.any p = true := by
  rw [List.any_eq_true]
  exact ⟨c, List.mem_of_getElem? h, hc⟩
section
variable {K : PySem.W.Frag} {g : TG} {tt : TT} {te : TE} {σ' : L2.St} {Q : VK} {H : Hp}
theorem gx_all_str {x : Str} (p : Nat → Bool) (hs : ∀ (c : Nat) H' N, Xt H H' → (∀ H2, Xt H H2 → if p c = false then Q (.bl false) H2 else N H2) → gxTurn g tt te σ' false Q (.str ⟨#[c]⟩) H' N) (h : ∀ H', Xt H H' → Q (.bl (x.cps.toList.all p)) H') :
    ∃ (W : Nat → Nat → Hp → Prop) (m : Nat), W 0 m H ∧ gxW (Its x) g tt te σ' false Q W := by
  refine gx_str (fun i H' => Xt H H' ∧ (x.cps.toList.take i).all p = true) ⟨Xt.refl H, rfl⟩ (fun i c H' hc hp => ?_) (fun H' hp => ?_)
  · obtain ⟨xt, hp⟩ := hp
    have hc' : x.cps.toList[i]? = some c := by rw [Array.getElem?_toList]; exact hc
    refine hs c H' _ xt fun H2 x2 => ite2 (fun e => ?_) (fun e => ⟨x2, ?_⟩)
    · have q := h H2 x2
      rw [all_false_at hc' e] at q
      exact q
    · rw [take_all_succ hc', hp, eq_true_of_ne_false e]
      rfl
  · obtain ⟨xt, hp⟩ := hp
    rw [show x.cps.size = x.cps.toList.length from Array.length_toList.symm, List.take_length] at hp
    have q := h H' xt
    rw [hp] at q
    exact q
theorem gx_any_str {x : Str} (p : Nat → Bool) (hs : ∀ (c : Nat) H' N, Xt H H' → (∀ H2, Xt H H2 → if p c = true then Q (.bl true) H2 else N H2) → gxTurn g tt te σ' true Q (.str ⟨#[c]⟩) H' N) (h : ∀ H', Xt H H' → Q (.bl (x.cps.toList.any p)) H') :
    ∃ (W : Nat → Nat → Hp → Prop) (m : Nat), W 0 m H ∧ gxW (Its x) g tt te σ' true Q W := by
  refine gx_str (fun i H' => Xt H H' ∧ (x.cps.toList.take i).any p = false) ⟨Xt.refl H, rfl⟩ (fun i c H' hc hp => ?_) (fun H' hp => ?_)
  · obtain ⟨xt, hp⟩ := hp
    have hc' : x.cps.toList[i]? = some c := by rw [Array.getElem?_toList]; exact hc
    refine hs c H' _ xt fun H2 x2 => ite2 (fun e => ?_) (fun e => ⟨x2, ?_⟩)
    · have q := h H2 x2
      rw [any_true_at hc' e] at q
      exact q
    · rw [take_any_succ hc', hp, eq_false_of_ne_true e]
      rfl
  · obtain ⟨xt, hp⟩ := hp
    rw [show x.cps.size = x.cps.toList.length from Array.length_toList.symm, List.take_length] at hp
    have q := h H' xt
    rw [hp] at q
    exact q
theorem gx_all_list {a : Addr} {xs : List V} (p : V → Bool) (hl : SqL K H a xs) (hs : ∀ v ∈ xs, ∀ H' N, Xt H H' → (∀ H2, Xt H H2 → if p v = false then Q (.bl false) H2 else N H2) → gxTurn g tt te σ' false Q v H' N) (h : ∀ H', Xt H H' → Q (.bl (xs.all p)) H') :
    ∃ (W : Nat → Nat → Hp → Prop) (m : Nat), W 0 m H ∧ gxW (Itl K a) g tt te σ' false Q W := by
  refine gx_list (xs := xs) (fun i H' => Xt H H' ∧ (xs.take i).all p = true) ⟨Xt.refl H, rfl⟩ (fun i H' hp => hp.1.sqL hl) (fun i c H' hc hp => ?_) (fun H' hp => ?_)
  · obtain ⟨xt, hp⟩ := hp
    refine hs c (List.mem_of_getElem? hc) H' _ xt fun H2 x2 => ite2 (fun e => ?_) (fun e => ⟨x2, ?_⟩)
    · have q := h H2 x2
      rw [all_false_at hc e] at q
      exact q
    · rw [take_all_succ hc, hp, eq_true_of_ne_false e]
      rfl
  · obtain ⟨xt, hp⟩ := hp
    rw [List.take_length] at hp
    have q := h H' xt
    rw [hp] at q
    exact q
theorem gx_any_list {a : Addr} {xs : List V} (p : V → Bool) (hl : SqL K H a xs) (hs : ∀ v ∈ xs, ∀ H' N, Xt H H' → (∀ H2, Xt H H2 → if p v = true then Q (.bl true) H2 else N H2) → gxTurn g tt te σ' true Q v H' N) (h : ∀ H', Xt H H' → Q (.bl (xs.any p)) H') :
    ∃ (W : Nat → Nat → Hp → Prop) (m : Nat), W 0 m H ∧ gxW (Itl K a) g tt te σ' true Q W := by
  refine gx_list (xs := xs) (fun i H' => Xt H H' ∧ (xs.take i).any p = false) ⟨Xt.refl H, rfl⟩ (fun i H' hp => hp.1.sqL hl) (fun i c H' hc hp => ?_) (fun H' hp => ?_)
  · obtain ⟨xt, hp⟩ := hp
    refine hs c (List.mem_of_getElem? hc) H' _ xt fun H2 x2 => ite2 (fun e => ?_) (fun e => ⟨x2, ?_⟩)
    · have q := h H2 x2
      rw [any_true_at hc e] at q
      exact q
    · rw [take_any_succ hc, hp, eq_false_of_ne_true e]
      rfl
  · obtain ⟨xt, hp⟩ := hp
    rw [List.take_length] at hp
    have q := h H' xt
    rw [hp] at q
    exact q
theorem gx_all_tup {a : Addr} {xs : List V} (p : V → Bool) (hl : SqT K H a xs) (hs : ∀ v ∈ xs, ∀ H' N, Xt H H' → (∀ H2, Xt H H2 → if p v = false then Q (.bl false) H2 else N H2) → gxTurn g tt te σ' false Q v H' N) (h : ∀ H', Xt H H' → Q (.bl (xs.all p)) H') :
    ∃ (W : Nat → Nat → Hp → Prop) (m : Nat), W 0 m H ∧ gxW (Itt K a) g tt te σ' false Q W := by
  refine gx_tup (xs := xs) (fun i H' => Xt H H' ∧ (xs.take i).all p = true) ⟨Xt.refl H, rfl⟩ (fun i H' hp => hp.1.sqT hl) (fun i c H' hc hp => ?_) (fun H' hp => ?_)
  · obtain ⟨xt, hp⟩ := hp
    refine hs c (List.mem_of_getElem? hc) H' _ xt fun H2 x2 => ite2 (fun e => ?_) (fun e => ⟨x2, ?_⟩)
    · have q := h H2 x2
      rw [all_false_at hc e] at q
      exact q
    · rw [take_all_succ hc, hp, eq_true_of_ne_false e]
      rfl
  · obtain ⟨xt, hp⟩ := hp
    rw [List.take_length] at hp
    have q := h H' xt
    rw [hp] at q
    exact q
theorem gx_any_tup {a : Addr} {xs : List V} (p : V → Bool) (hl : SqT K H a xs) (hs : ∀ v ∈ xs, ∀ H' N, Xt H H' → (∀ H2, Xt H H2 → if p v = true then Q (.bl true) H2 else N H2) → gxTurn g tt te σ' true Q v H' N) (h : ∀ H', Xt H H' → Q (.bl (xs.any p)) H') :
    ∃ (W : Nat → Nat → Hp → Prop) (m : Nat), W 0 m H ∧ gxW (Itt K a) g tt te σ' true Q W := by
  refine gx_tup (xs := xs) (fun i H' => Xt H H' ∧ (xs.take i).any p = false) ⟨Xt.refl H, rfl⟩ (fun i H' hp => hp.1.sqT hl) (fun i c H' hc hp => ?_) (fun H' hp => ?_)
  · obtain ⟨xt, hp⟩ := hp
    refine hs c (List.mem_of_getElem? hc) H' _ xt fun H2 x2 => ite2 (fun e => ?_) (fun e => ⟨x2, ?_⟩)
    · have q := h H2 x2
      rw [any_true_at hc e] at q
      exact q
    · rw [take_any_succ hc, hp, eq_false_of_ne_true e]
      rfl
  · obtain ⟨xt, hp⟩ := hp
    rw [List.take_length] at hp
    have q := h H' xt
    rw [hp] at q
    exact q
end
/-! ### comprehensions that filter and map, nothing else changed -/
section
variable {K : PySem.W.Frag} {g : TG} {tt : TT} {te : TE}
theorem lcf_str {vs : List Nat} {σ : L2.St} {H1 : Hp} {D : Addr} {Qd : Hp → Prop} {x : Str} (p : Nat → Bool) (f : Nat → V) (hD : H1 D = none) (hz : x.cps.toList.length ≤ sizeLine)
    (hs : ∀ v ∈ x.cps.toList, ∀ H' (Y : V → Hp → Prop) (N : Hp → Prop), Xt H1 H' → (∀ H2, Xt H' H2 → p v = true → Y (f v) H2) → (∀ H2, Xt H' H2 → p v = false → N H2) →
      g (.str ⟨#[v]⟩) (wipe σ vs) H' fun σ2 H2 => wipe σ2 vs = wipe σ vs ∧ tt σ2 H2 fun b H3 => if b = true then te σ2 H3 Y else N H3)
    (hd : ∀ H', Xt H1 H' → H' D = some (.lst ((x.cps.toList.filter p).map f)) → Qd H') :
    ∃ W : Nat → Nat → Hp → Prop, (∃ m, W 0 m (upd H1 D (.lst []))) ∧ ∀ i m H, W i m H →
      ((Its x).stop i H ∧ Qd H) ∨ ((Its x).go i H ∧ ∃ Nx : Hp → Prop, (∀ H', Nx H' → ∃ m', m' < m ∧ W (i + 1) m' H') ∧ ∀ v H', (Its x).yld i H v H' → g v (wipe σ vs) H' fun σ2 H2 => wipe σ2 vs = wipe σ vs ∧ tt σ2 H2 fun b H3 =>
        if b = true then te σ2 H3 fun y H4 => ∃ acc, H4 D = some (.lst acc) ∧ acc.length < sizeLine ∧ Nx (upd H4 D (.lst (acc ++ [y]))) else Nx H3) := by
  refine lc_str (fun i H' => Xt H1 H' ∧ H' D = some (.lst ((((x.cps.toList).take i).filter p).map f))) ⟨Xt.new hD, upd_same ..⟩ (fun i c H' hc hp => ?_) (fun H' hp => hd H' hp.1 ?_)
  · obtain ⟨xt, hp⟩ := hp
    have hc' : (x.cps.toList)[i]? = some c := by rw [Array.getElem?_toList]; exact hc
    have hi : i < (x.cps.toList).length := (List.getElem?_eq_some_iff.mp hc').1
    refine hs c (List.mem_of_getElem? hc') H' _ _ xt (fun H2 x2 e => ⟨_, x2.lst hp, ?_, (xt.trans x2).mut hD, ?_⟩) (fun H2 x2 e => ⟨xt.trans x2, ?_⟩)
    · rw [List.length_map]
      exact Nat.lt_of_le_of_lt (Nat.le_trans (List.length_filter_le ..) (by rw [List.length_take]; exact Nat.min_le_left ..)) (Nat.lt_of_lt_of_le hi hz)
    · rw [upd_same, List.take_add_one, hc', List.filter_append, List.map_append]
      show _ = some (HO.lst (_ ++ ([c].filter p).map f))
      rw [List.filter_cons, if_pos e]
      rfl
    · rw [x2.lst hp, List.take_add_one, hc', List.filter_append, List.map_append]
      show _ = some (HO.lst (_ ++ ([c].filter p).map f))
      rw [List.filter_cons, if_neg (by rw [e]; exact Bool.false_ne_true)]
      show _ = some (HO.lst (_ ++ []))
      rw [List.append_nil]
  · have h2 := hp.2
    rw [show x.cps.size = x.cps.toList.length from Array.length_toList.symm, List.take_length] at h2
    exact h2
theorem lcf_list {vs : List Nat} {σ : L2.St} {H1 : Hp} {D : Addr} {Qd : Hp → Prop} {a : Addr} {xs : List V} (p : V → Bool) (f : V → V) (hl : SqL K H1 a xs) (hD : H1 D = none) (hz : xs.length ≤ sizeLine)
    (hs : ∀ v ∈ xs, ∀ H' (Y : V → Hp → Prop) (N : Hp → Prop), Xt H1 H' → (∀ H2, Xt H' H2 → p v = true → Y (f v) H2) → (∀ H2, Xt H' H2 → p v = false → N H2) →
      g v (wipe σ vs) H' fun σ2 H2 => wipe σ2 vs = wipe σ vs ∧ tt σ2 H2 fun b H3 => if b = true then te σ2 H3 Y else N H3)
    (hd : ∀ H', Xt H1 H' → H' D = some (.lst ((xs.filter p).map f)) → Qd H') :
    ∃ W : Nat → Nat → Hp → Prop, (∃ m, W 0 m (upd H1 D (.lst []))) ∧ ∀ i m H, W i m H →
      ((Itl K a).stop i H ∧ Qd H) ∨ ((Itl K a).go i H ∧ ∃ Nx : Hp → Prop, (∀ H', Nx H' → ∃ m', m' < m ∧ W (i + 1) m' H') ∧ ∀ v H', (Itl K a).yld i H v H' → g v (wipe σ vs) H' fun σ2 H2 => wipe σ2 vs = wipe σ vs ∧ tt σ2 H2 fun b H3 =>
        if b = true then te σ2 H3 fun y H4 => ∃ acc, H4 D = some (.lst acc) ∧ acc.length < sizeLine ∧ Nx (upd H4 D (.lst (acc ++ [y]))) else Nx H3) := by
  refine lc_list (fun i H' => Xt H1 H' ∧ H' D = some (.lst ((((xs).take i).filter p).map f))) ⟨Xt.new hD, upd_same ..⟩ (fun i H' _ hp => hp.1.sqL hl) (fun i c H' hc hp => ?_) (fun H' hp => hd H' hp.1 ?_)
  · obtain ⟨xt, hp⟩ := hp
    have hc' : (xs)[i]? = some c := hc
    have hi : i < (xs).length := (List.getElem?_eq_some_iff.mp hc').1
    refine hs c (List.mem_of_getElem? hc') H' _ _ xt (fun H2 x2 e => ⟨_, x2.lst hp, ?_, (xt.trans x2).mut hD, ?_⟩) (fun H2 x2 e => ⟨xt.trans x2, ?_⟩)
    · rw [List.length_map]
      exact Nat.lt_of_le_of_lt (Nat.le_trans (List.length_filter_le ..) (by rw [List.length_take]; exact Nat.min_le_left ..)) (Nat.lt_of_lt_of_le hi hz)
    · rw [upd_same, List.take_add_one, hc', List.filter_append, List.map_append]
      show _ = some (HO.lst (_ ++ ([c].filter p).map f))
      rw [List.filter_cons, if_pos e]
      rfl
    · rw [x2.lst hp, List.take_add_one, hc', List.filter_append, List.map_append]
      show _ = some (HO.lst (_ ++ ([c].filter p).map f))
      rw [List.filter_cons, if_neg (by rw [e]; exact Bool.false_ne_true)]
      show _ = some (HO.lst (_ ++ []))
      rw [List.append_nil]
  · have h2 := hp.2
    rw [List.take_length] at h2
    exact h2
theorem lcf_tup {vs : List Nat} {σ : L2.St} {H1 : Hp} {D : Addr} {Qd : Hp → Prop} {a : Addr} {xs : List V} (p : V → Bool) (f : V → V) (hl : SqT K H1 a xs) (hD : H1 D = none) (hz : xs.length ≤ sizeLine)
    (hs : ∀ v ∈ xs, ∀ H' (Y : V → Hp → Prop) (N : Hp → Prop), Xt H1 H' → (∀ H2, Xt H' H2 → p v = true → Y (f v) H2) → (∀ H2, Xt H' H2 → p v = false → N H2) →
      g v (wipe σ vs) H' fun σ2 H2 => wipe σ2 vs = wipe σ vs ∧ tt σ2 H2 fun b H3 => if b = true then te σ2 H3 Y else N H3)
    (hd : ∀ H', Xt H1 H' → H' D = some (.lst ((xs.filter p).map f)) → Qd H') :
    ∃ W : Nat → Nat → Hp → Prop, (∃ m, W 0 m (upd H1 D (.lst []))) ∧ ∀ i m H, W i m H →
      ((Itt K a).stop i H ∧ Qd H) ∨ ((Itt K a).go i H ∧ ∃ Nx : Hp → Prop, (∀ H', Nx H' → ∃ m', m' < m ∧ W (i + 1) m' H') ∧ ∀ v H', (Itt K a).yld i H v H' → g v (wipe σ vs) H' fun σ2 H2 => wipe σ2 vs = wipe σ vs ∧ tt σ2 H2 fun b H3 =>
        if b = true then te σ2 H3 fun y H4 => ∃ acc, H4 D = some (.lst acc) ∧ acc.length < sizeLine ∧ Nx (upd H4 D (.lst (acc ++ [y]))) else Nx H3) := by
  refine lc_tup (fun i H' => Xt H1 H' ∧ H' D = some (.lst ((((xs).take i).filter p).map f))) ⟨Xt.new hD, upd_same ..⟩ (fun i H' _ hp => hp.1.sqT hl) (fun i c H' hc hp => ?_) (fun H' hp => hd H' hp.1 ?_)
  · obtain ⟨xt, hp⟩ := hp
    have hc' : (xs)[i]? = some c := hc
    have hi : i < (xs).length := (List.getElem?_eq_some_iff.mp hc').1
    refine hs c (List.mem_of_getElem? hc') H' _ _ xt (fun H2 x2 e => ⟨_, x2.lst hp, ?_, (xt.trans x2).mut hD, ?_⟩) (fun H2 x2 e => ⟨xt.trans x2, ?_⟩)
    · rw [List.length_map]
      exact Nat.lt_of_le_of_lt (Nat.le_trans (List.length_filter_le ..) (by rw [List.length_take]; exact Nat.min_le_left ..)) (Nat.lt_of_lt_of_le hi hz)
    · rw [upd_same, List.take_add_one, hc', List.filter_append, List.map_append]
      show _ = some (HO.lst (_ ++ ([c].filter p).map f))
      rw [List.filter_cons, if_pos e]
      rfl
    · rw [x2.lst hp, List.take_add_one, hc', List.filter_append, List.map_append]
      show _ = some (HO.lst (_ ++ ([c].filter p).map f))
      rw [List.filter_cons, if_neg (by rw [e]; exact Bool.false_ne_true)]
      show _ = some (HO.lst (_ ++ []))
      rw [List.append_nil]
  · have h2 := hp.2
    rw [List.take_length] at h2
    exact h2
end
/-! ### data stays data -/
mutual
theorem Dp.xt {K : PySem.W.Frag} {H H' : Hp} (x : Xt H H') : ∀ (d : PyData) (v : V), Dp K H v d → Dp K H' v d
  | .none, _, h => by cases h; exact .non
  | .bool b, _, h => by cases h; exact .bl b
  | .int i, _, h => by cases h; exact .int i
  | .str s, _, h => by cases h; exact .str s
  | .list ds, _, h => by
    cases h with
    | lst hs ha => exact .lst (x.sqL hs) (Dp.xts x ds _ ha)
  | .tuple ds, _, h => by
    cases h with
    | tup hs ha => exact .tup (x.sqT hs) (Dp.xts x ds _ ha)
  | .dict _, _, h => by cases h
theorem Dp.xts {K : PySem.W.Frag} {H H' : Hp} (x : Xt H H') : ∀ (ds : List PyData) (vs : List V), DpAll K H vs ds → DpAll K H' vs ds
  | [], _, h => by cases h; exact .nil
  | d :: ds, _, h => by
    cases h with
    | cons h1 h2 => exact .cons (Dp.xt x d _ h1) (Dp.xts x ds _ h2)
end
theorem dp_strs {K : PySem.W.Frag} {H : Hp} : ∀ l : List Str, DpAll K H (l.map V.str) (l.map PyData.str)
  | [] => .nil
  | x :: l => .cons (.str x) (dp_strs l)
theorem shp_all : ∀ ds : List PyData, (∀ d ∈ ds, d.canLay0 = true ∧ d.depth ≤ 8) → PyData.canLayAll0 ds = true ∧ PyData.depthAll ds ≤ 8
  | [], _ => ⟨rfl, Nat.zero_le _⟩
  | d :: ds, h => by
    obtain ⟨h1, h2⟩ := h d (List.mem_cons_self ..)
    obtain ⟨h3, h4⟩ := shp_all ds fun z hz => h z (List.mem_cons_of_mem _ hz)
    refine ⟨?_, ?_⟩
    · show (PyData.canLay0 d && PyData.canLayAll0 ds) = true
      rw [h1, h3]; rfl
    · show max (PyData.depth d) (PyData.depthAll ds) ≤ 8
      exact Nat.max_le.mpr ⟨h2, h4⟩
theorem shp_list {ds : List PyData} (h : ∀ d ∈ ds, d.canLay0 = true ∧ d.depth ≤ 8) : SeqAt.shaped (.list ds) = true := by
  obtain ⟨h1, h2⟩ := shp_all ds h
  show (PyData.canLayAll0 ds && decide (PyData.depthAll ds + 1 ≤ 64)) = true
  rw [h1, decide_eq_true (by omega)]; rfl
/-- a raising way that cannot be -/
theorem tk_dead {X : Cx} : Takes X (fun _ _ _ _ => False) := fun u s' ⟨a, B, sI, pins, σ, H, cls, d, e, I, nb, up, sky, na, os, ag, w⟩ => w.elim
theorem shp_nil : SeqAt.shaped (.list []) = true := by decide
end Gx
set_option Elab.async false
set_option linter.all false
set_option maxRecDepth 100000
set_option maxHeartbeats 2000000
namespace Gx
open PySem PySem.Spec PyProof.Rows L2
/-! ### a list of ints that is drawn from -/
def Dr (H : Hp) (d : Addr) : Prop := ∃ ns : List Int, H d = some (.lst (ns.map V.int))
/-- all stays but the list of draws, which stays one -/
structure Xd (d : Addr) (H H' : Hp) : Prop where
  dr : Dr H' d
  keep : ∀ b o, b ≠ d → H b = some o → (∀ ps, o ≠ .tbl ps) → H' b = some o
  tab : ∀ P ps, H P = some (.tbl ps) → ∃ ps', H' P = some (.tbl ps') ∧ (TriplesOk ps.toList → TriplesOk ps'.toList)
theorem Dr.xt {H H' : Hp} {d : Addr} (h : Dr H d) (x : Xt H H') : Dr H' d := by
  obtain ⟨ns, e⟩ := h
  exact ⟨ns, x.lst e⟩
theorem Xd.refl {H : Hp} {d : Addr} (h : Dr H d) : Xd d H H := ⟨h, fun _ _ _ e _ => e, fun P ps e => ⟨ps, e, id⟩⟩
theorem Xt.xd {H H' : Hp} {d : Addr} (x : Xt H H') (h : Dr H d) : Xd d H H' := ⟨h.xt x, fun b o _ e n => x.keep b o e n, x.tab⟩
theorem Xd.trans {H H1 H2 : Hp} {d : Addr} (a : Xd d H H1) (b : Xd d H1 H2) : Xd d H H2 := ⟨b.dr, fun c o hc h n => b.keep c o hc (a.keep c o hc h n) n, fun P ps h => by
  obtain ⟨p1, e1, f1⟩ := a.tab P ps h
  obtain ⟨p2, e2, f2⟩ := b.tab P p1 e1
  exact ⟨p2, e2, fun z => f2 (f1 z)⟩⟩
theorem Xd.xt {H H1 H2 : Hp} {d : Addr} (a : Xd d H H1) (b : Xt H1 H2) : Xd d H H2 := a.trans (b.xd a.dr)
theorem Xd.lst {H H' : Hp} {d a : Addr} {xs : List V} (x : Xd d H H') (hd : a ≠ d) (h : H a = some (.lst xs)) : H' a = some (.lst xs) := x.keep a _ hd h fun _ => nofun
theorem Xd.tup {H H' : Hp} {d a : Addr} {xs : List V} (x : Xd d H H') (hd : a ≠ d) (h : H a = some (.tup xs)) : H' a = some (.tup xs) := x.keep a _ hd h fun _ => nofun
theorem Xd.tabG {H H' : Hp} {d P : Addr} (x : Xd d H H') (h : GxR.TabG H P) : GxR.TabG H' P := by
  obtain ⟨ps, e, t⟩ := h
  obtain ⟨ps', e', f⟩ := x.tab P ps e
  exact ⟨ps', e', f t⟩
theorem Dr.ne_none {H : Hp} {d p : Addr} (h : Dr H d) (hp : H p = none) : d ≠ p := fun z => by
  obtain ⟨ns, e⟩ := h
  rw [z, hp] at e; cases e
theorem Xd.free {H H' : Hp} {d a : Addr} (x : Xd d H H') (h : H' a = none) : H a = none := by
  have ha : a ≠ d := fun z => x.dr.ne_none h z.symm
  cases q : H a with
  | none => rfl
  | some o =>
    by_cases ht : ∃ ps, o = .tbl ps
    · obtain ⟨ps, rfl⟩ := ht
      obtain ⟨ps', e', _⟩ := x.tab a ps q
      rw [h] at e'; cases e'
    · rw [x.keep a o ha q (fun ps e => ht ⟨ps, e⟩)] at h; cases h
/-- an object that H does not know may change -/
theorem Xd.mut {H H' : Hp} {d p : Addr} {o : HO} (x : Xd d H H') (hd : d ≠ p) (h : H p = none) : Xd d H (upd H' p o) := ⟨by
  obtain ⟨ns, e⟩ := x.dr
  exact ⟨ns, by rw [upd_ne hd]; exact e⟩, fun a u ha e n => by
  rw [upd_ne (ne_of_none e h)]
  exact x.keep a u ha e n, fun P ps hP => by
  rw [upd_ne (ne_of_none hP h)]
  exact x.tab P ps hP⟩
theorem Xd.draw {H : Hp} {d : Addr} {ns : List Int} (h : Dr H d) : Xd d H (upd H d (.lst (ns.map V.int))) := ⟨⟨ns, upd_same ..⟩, fun b o hb e _ => by rw [upd_ne hb]; exact e, fun P ps e => ⟨ps, (by
  obtain ⟨ms, e2⟩ := h
  rw [upd_ne (fun z => by rw [z, e2] at e; cases e)]
  exact e), id⟩⟩
/-! ### promises of the draws -/
def spTake : Sp := fun vs H Q _ => ∃ (d : Addr) (b : Int), vs = [.ref d, .int b] ∧ 0 < b ∧ Dr H d ∧ ∀ H1 r, Xd d H H1 → 0 ≤ r → r < b → Q (.int r) H1
def spPick : Sp := fun vs H Q _ => ∃ (d q : Addr) (xs : List V), vs = [.ref d, .ref q] ∧ q ≠ d ∧ xs ≠ [] ∧ Dr H d ∧ H q = some (.lst xs) ∧ ∀ H1 v, Xd d H H1 → v ∈ xs → Q v H1
def spDraws (K : PySem.W.Frag) : Sp := fun vs H Q _ => ∃ (q : Addr) (ns : List Int), vs = [.ref q] ∧ SqL K H q (ns.map V.int) ∧ ns.length ≤ 1000 ∧ ∀ H1 r, Xt H H1 → H r = none → Dr H1 r → Q (.ref r) H1
/-! ### what the laws' own comparison asks -/
def leafV : V → Bool
  | .non => true
  | .bl _ => true
  | .int _ => true
  | .str _ => true
  | _ => false
def SameD (H : Hp) : Nat → V → V → Prop
  | 0, v, d => leafV v = true ∧ v = d
  | n + 1, v, d => (leafV v = true ∧ v = d) ∨ ∃ (a b : Addr) (xs ys : List V), v = .ref a ∧ d = .ref b ∧ ((H a = some (.tup xs) ∧ H b = some (.tup ys)) ∨ (H a = some (.lst xs) ∧ H b = some (.lst ys))) ∧
      xs.length = ys.length ∧ xs.length ≤ 1000000 ∧ ∀ (i : Nat) (x y : V), xs[i]? = some x → ys[i]? = some y → SameD H n x y
theorem SameD.leaf {H : Hp} {v : V} (h : leafV v = true) : ∀ n, SameD H n v v
  | 0 => ⟨h, rfl⟩
  | _ + 1 => .inl ⟨h, rfl⟩
theorem SameD.xt {H H' : Hp} (x : Xt H H') : ∀ (n : Nat) (v d : V), SameD H n v d → SameD H' n v d
  | 0, _, _, h => h
  | n + 1, v, d, h => by
    rcases h with h | ⟨a, b, xs, ys, rfl, rfl, ho, hl, hz, hi⟩
    · exact .inl h
    · refine .inr ⟨a, b, xs, ys, rfl, rfl, ?_, hl, hz, fun i u w e1 e2 => SameD.xt x n u w (hi i u w e1 e2)⟩
      rcases ho with ⟨h1, h2⟩ | ⟨h1, h2⟩
      · exact .inl ⟨x.tup h1, x.tup h2⟩
      · exact .inr ⟨x.lst h1, x.lst h2⟩
theorem SameD.two {H : Hp} {n : Nat} {v d : V} (h : SameD H n v d) : (leafV v = true ∧ v = d) ∨ ∃ m, n = m + 1 ∧ ∃ (a b : Addr) (xs ys : List V), v = .ref a ∧ d = .ref b ∧ ((H a = some (.tup xs) ∧ H b = some (.tup ys)) ∨ (H a = some (.lst xs) ∧ H b = some (.lst ys))) ∧
      xs.length = ys.length ∧ xs.length ≤ 1000000 ∧ ∀ (i : Nat) (x y : V), xs[i]? = some x → ys[i]? = some y → SameD H m x y := by
  cases n with
  | zero => exact .inl h
  | succ m =>
    rcases h with h | h
    · exact .inl h
    · exact .inr ⟨m, rfl, h⟩
def spSame (n : Nat) : Sp := fun vs H Q _ => ∃ v d, vs = [v, d] ∧ SameD H n v d ∧ ∀ H1, Xt H H1 → Q (.bl true) H1
/-- the name of a plain value's type -/
def tyN : V → String
  | .non => "NoneType"
  | .bl _ => "bool"
  | .int _ => "int"
  | _ => "str"
theorem leaf_ty {K : PySem.W.Frag} {H : Hp} {v : V} (h : leafV v = true) : TyX K H v (.type (tyN v)) := by
  cases v <;> first | exact Bool.noConfusion h | exact .base (by constructor)
def isB (v : V) (c : String) : Bool := (kitB (tyN v) c).getD false
theorem kits : ∀ t ∈ ["NoneType", "bool", "int", "str"], ∀ c ∈ ["tuple", "list", "bool", "int", "str"], kitB t c = some ((kitB t c).getD false) := by decide +kernel
theorem kits0 : ∀ t ∈ ["NoneType", "bool", "int", "str"], (kitB t "tuple").getD false = false ∧ (kitB t "list").getD false = false := by decide +kernel
theorem tyN_mem (v : V) : tyN v ∈ ["NoneType", "bool", "int", "str"] := by
  cases v <;> (unfold tyN; simp)
theorem leaf_kit {v : V} {c : String} (hc : c ∈ ["tuple", "list", "bool", "int", "str"]) : kitB (tyN v) c = some (isB v c) := kits _ (tyN_mem v) c hc
theorem leaf_seq (v : V) : isB v "tuple" = false ∧ isB v "list" = false := kits0 _ (tyN_mem v)
theorem kit_tt : kitB "tuple" "tuple" = some true := by decide +kernel
theorem kit_tl : kitB "tuple" "list" = some false := by decide +kernel
theorem kit_ll : kitB "list" "list" = some true := by decide +kernel
theorem kit_lt : kitB "list" "tuple" = some false := by decide +kernel
theorem rd_is {K : PySem.W.Frag} {σ : L2.St} {H : Hp} {v : V} {i : Nat} {t c : String} {b : Bool} {Q : VK} (hi : σ[i]? = some (some v)) (ht : TyX K H v (.type t)) (hb : kitB t c = some b) (q : Q (.bl b) H) :
    tCB (rIsi K) (tCons (tVar i) (tCons (tC (.ty c)) tNil)) σ H Q := ⟨v, hi, v, .ty c, .type t, .type c, b, rfl, .ty c, ht, kit_ty hb, q⟩
/-- isinstance of one is as of the other -/
theorem rd_ne {K : PySem.W.Frag} {σ : L2.St} {H : Hp} {v u : V} {i j : Nat} {t c : String} {b : Bool} {Q : Bool → Hp → Prop} (hi : σ[i]? = some (some v)) (ht : TyX K H v (.type t)) (hj : σ[j]? = some (some u)) (hu : TyX K H u (.type t)) (hb : kitB t c = some b) (q : Q false H) :
    tTest (tOp rNe (tCB (rIsi K) (tCons (tVar i) (tCons (tC (.ty c)) tNil))) (tCB (rIsi K) (tCons (tVar j) (tCons (tC (.ty c)) tNil)))) σ H Q := by
  refine rd_is hi ht hb (rd_is hj hu hb ⟨rfl, _, rfl, ?_⟩)
  rw [decide_eq_true rfl]
  exact q
theorem rd_or {K : PySem.W.Frag} {σ : L2.St} {H : Hp} {v : V} {i : Nat} {t c c' : String} {b b' : Bool} {Q : Bool → Hp → Prop} (hi : σ[i]? = some (some v)) (ht : TyX K H v (.type t)) (hb : kitB t c = some b) (hb' : kitB t c' = some b') (ho : (b || b') = true) (q : Q true H) :
    tOr (tB (tCB (rIsi K) (tCons (tVar i) (tCons (tC (.ty c)) tNil)))) (tB (tCB (rIsi K) (tCons (tVar i) (tCons (tC (.ty c')) tNil)))) σ H Q := by
  refine rd_is hi ht hb ⟨_, rfl, ite2 (fun _ => q) (fun e => rd_is hi ht hb' ⟨_, rfl, ?_⟩)⟩
  rw [eq_false_of_ne_true e, Bool.false_or] at ho
  rw [ho]
  exact q
theorem rd_ix {K : PySem.W.Frag} {H : Hp} {a : Addr} {xs : List V} {x : V} {i : Int} {Q : VK} (h : H a = some (.tup xs) ∨ H a = some (.lst xs)) (hx : atI xs i = some x) (q : Q x H) : rIx K (.ref a) (.int i) H Q := by
  rcases h with h | h
  · exact .inr (.inl ⟨a, xs, i, x, rfl, rfl, .inl (.inl h), hx, q⟩)
  · exact .inl ⟨a, xs, i, x, rfl, rfl, .inl (.inl h), hx, q⟩
theorem Xt.seq {H H' : Hp} (x : Xt H H') {a : Addr} {xs : List V} (h : H a = some (.tup xs) ∨ H a = some (.lst xs)) : H' a = some (.tup xs) ∨ H' a = some (.lst xs) := by
  rcases h with h | h
  · exact .inl (x.tup h)
  · exact .inr (x.lst h)
theorem seq_sq {K : PySem.W.Frag} {H : Hp} {a : Addr} {xs : List V} (h : H a = some (.tup xs) ∨ H a = some (.lst xs)) : SqL K H a xs ∨ SqT K H a xs := by
  rcases h with h | h
  · exact .inr (.inl (.inl h))
  · exact .inl (.inl (.inl h))
end Gx
namespace Gx
open PySem PySem.Spec PyProof.Rows L2
/-! ### a list made of draws -/
theorem lcd_range {d : Addr} {lo : Int} {m : Nat} {g : TG} {tt : TT} {te : TE} {vs : List Nat} {σ : L2.St} {H1 : Hp} {D : Addr} {Qd : Hp → Prop} (P : V → Prop) (hd : Dr H1 d) (hD : H1 D = none) (hm : m ≤ sizeLine)
    (hs : ∀ (i : Nat) H' (Y : V → Hp → Prop) (N : Hp → Prop), i < m → Xd d H1 H' → (∀ H2 v, Xd d H' H2 → P v → Y v H2) →
      g (.int (lo + i)) (wipe σ vs) H' fun σ2 H2 => wipe σ2 vs = wipe σ vs ∧ tt σ2 H2 fun b H3 => if b = true then te σ2 H3 Y else N H3)
    (hq : ∀ H' ys, Xd d H1 H' → H' D = some (.lst ys) → ys.length = m → (∀ v ∈ ys, P v) → Qd H') :
    ∃ W : Nat → Nat → Hp → Prop, (∃ m, W 0 m (upd H1 D (.lst []))) ∧ ∀ i m' H, W i m' H →
      ((Itr lo m).stop i H ∧ Qd H) ∨ ((Itr lo m).go i H ∧ ∃ Nx : Hp → Prop, (∀ H', Nx H' → ∃ m'', m'' < m' ∧ W (i + 1) m'' H') ∧ ∀ v H', (Itr lo m).yld i H v H' → g v (wipe σ vs) H' fun σ2 H2 => wipe σ2 vs = wipe σ vs ∧ tt σ2 H2 fun b H3 =>
        if b = true then te σ2 H3 fun y H4 => ∃ acc, H4 D = some (.lst acc) ∧ acc.length < sizeLine ∧ Nx (upd H4 D (.lst (acc ++ [y]))) else Nx H3) := by
  have hdD : d ≠ D := hd.ne_none hD
  have hDd : D ≠ d := fun z => hdD z.symm
  refine lc_range (fun i H' => Xd d H1 H' ∧ ∃ ys : List V, H' D = some (.lst ys) ∧ ys.length = i ∧ ∀ v ∈ ys, P v) ⟨(Xd.refl hd).mut hdD hD, [], upd_same .., rfl, fun v hv => by cases hv⟩ (fun i H' hi hp => ?_) (fun H' hp => ?_)
  · obtain ⟨xd, ys, e, hl, hp⟩ := hp
    refine hs i H' _ _ hi xd fun H2 v x2 hv => ⟨ys, x2.lst hDd e, by omega, (xd.trans x2).mut hdD hD, ys ++ [v], upd_same .., by rw [List.length_append, hl]; rfl, fun u hu => ?_⟩
    rcases List.mem_append.mp hu with hu | hu
    · exact hp u hu
    · rw [List.mem_singleton.mp hu]; exact hv
  · obtain ⟨xd, ys, e, hl, hp⟩ := hp
    exact hq H' ys xd e hl hp
end Gx
set_option Elab.async false
set_option linter.all false
set_option maxRecDepth 100000
set_option maxHeartbeats 2000000
namespace Gx
open PySem PySem.Spec PyProof.Rows L2
/-! ### rules with the written part said apart -/
section
variable {X : Cx} {K : PySem.W.Frag}
theorem ix_listK (h : X.K = K) : IxR X (rIxL K) := by subst h; exact ix_list
theorem ix_tupK (h : X.K = K) : IxR X (rIxT K) := by subst h; exact ix_tup
theorem ix_seqK (h : X.K = K) : IxR X (rIx K) := by subst h; exact ix_seq
theorem sl_listK (h : X.K = K) : SlR X (rSlL K) := by subst h; exact sl_list
theorem sl_tupK (h : X.K = K) : SlR X (rSlT K) := by subst h; exact sl_tup
theorem op_catTK (h : X.K = K) : OpR X (binaryOp .Add) (rCatT K) := by subst h; exact op_catT
theorem op_in_seqK (h : X.K = K) : OpR X (compareOp .In) (rIn K false) := by subst h; exact op_in_seq
theorem op_notIn_seqK (h : X.K = K) : OpR X (compareOp .NotIn) (rIn K true) := by subst h; exact op_notIn_seq
theorem op_eqDK (h : X.K = K) (hu : X.A.units + 64 < cLine) : OpR X (compareOp .Eq) (rEqD K) := by subst h; exact op_eqD hu
theorem op_neDK (h : X.K = K) (hu : X.A.units + 64 < cLine) : OpR X (compareOp .NotEq) (rNeD K) := by subst h; exact op_neD hu
def rLenK (K : PySem.W.Frag) : List V → Hp → VK → Prop := fun xs H Q => ∃ p ys, xs = [.ref p] ∧ (SqL K H p ys ∨ SqT K H p ys) ∧ Q (.int ys.length) H
def rListK (K : PySem.W.Frag) : List V → Hp → VK → Prop := fun xs H Q => ∃ p ys, xs = [.ref p] ∧ (SqL K H p ys ∨ SqT K H p ys) ∧ ∀ l, H l = none → Q (.ref l) (upd H l (.lst ys))
def rTupK (K : PySem.W.Frag) : List V → Hp → VK → Prop := fun xs H Q => ∃ p ys, xs = [.ref p] ∧ ((SqL K H p ys ∧ ∀ l, H l = none → Q (.ref l) (upd H l (.tup ys))) ∨ (SqT K H p ys ∧ Q (.ref p) H))
theorem call_len_seqK (h : X.K = K) : CallR X (.builtin "len") (rLenK K) := by subst h; exact call_len_seq
theorem call_list_ofK (h : X.K = K) : CallR X (.type "list") (rListK K) := by subst h; exact call_list_of
theorem call_tuple_ofK (h : X.K = K) : CallR X (.type "tuple") (rTupK K) := by subst h; exact call_tuple_of
theorem call_isiK' (h : X.K = K) : CallR X (.builtin "isinstance") (rIsi K) := by subst h; exact call_isi
theorem cr_maxK (h : X.K = K) (hc : X.calm = true) : CallR X (.builtin "max") (rMax K) := by subst h; exact cr_max hc
theorem cr_minK (h : X.K = K) (hc : X.calm = true) : CallR X (.builtin "min") (rMin K) := by subst h; exact cr_min hc
variable {tg : Expr}
theorem pi_listK {l : Expr} {tl : TE} (h : X.K = K) (hl : PE X l tl) : PI X tg l (iList K tl) := by subst h; exact pi_list hl
theorem pi_tupK {l : Expr} {tl : TE} (h : X.K = K) (hl : PE X l tl) : PI X tg l (iTup K tl) := by subst h; exact pi_tup hl
theorem pg_tupK {es : List Expr} {k : Nat} {t : TGs} {n : Nat} {pos : Pos} (h : X.K = K) (hc : X.calm = true) (hp : PGs X es t)
    (hn : (assignEach es X.env).length = n := by rfl) (hst : (assignEach es X.env).findIdx? (·.1) = none := by rfl) : PG X (.Tuple es k pos) (gTup K n t) := by subst h; exact pg_tup hc hp hn hst
variable {o e : Expr} {es : List Expr} {to : TE} {t : TA} {name : Str} {apos cpos : Pos} {T id : String} {r : V → List V → Hp → VK → Prop}
theorem pe_bm0K (h : X.K = K) (pa : PlainAttrs T) (slot : Slot T name id) (hty : typeOf (.builtin id) = pure (.type "method_descriptor")) (hm : MtR X id r) (ho : PE X o to)
    (hbase : attributeBase o name X.env (eval o X.env) = eval o X.env := by rfl) (hline : (apos.endLine == cpos.line) = true := by rfl) : PE X (.Call (.Attribute o name apos) [] [] cpos) (tBM0 K T r to) := by
  subst h; exact pe_bm0 pa slot hty hm ho hbase hline
theorem pe_bmK (h : X.K = K) (pa : PlainAttrs T) (slot : Slot T name id) (hty : typeOf (.builtin id) = pure (.type "method_descriptor")) (hm : MtR X id r) (ho : PE X o to) (ha : PA X (e :: es) t)
    (hbase : attributeBase o name X.env (eval o X.env) = eval o X.env := by rfl)
    (hfew : ((backTo cpos (starEach (e :: es) X.env)).all (fun x => !x.1) && (backToKw cpos (keywordEach [] X.env)).all (fun x => x.1.isSome)
      && decide ((e :: es).length + ([] : List Keyword).length + (if ([] : List Keyword).isEmpty then 0 else 1) < 30)) = true := by rfl)
    (hline : (apos.endLine == cpos.line) = true := by rfl) (hs : starEach (e :: es) X.env = (false, eval e X.env) :: starEach es X.env := by rfl) (hplain : (backTo cpos (starEach es X.env)).any (·.1) = false := by rfl) :
    PE X (.Call (.Attribute o name apos) (e :: es) [] cpos) (tBM K T r to t) := by
  subst h; exact pe_bm pa slot hty hm ho ha hbase hfew hline hs hplain
theorem pe_bmSK {r : L2.St → V → List V → Hp → VK → Prop} (h : X.K = K) (pa : PlainAttrs T) (slot : Slot T name id) (hty : typeOf (.builtin id) = pure (.type "method_descriptor")) (hm : MtS X id r) (ho : PE X o to) (ha : PA X (e :: es) t)
    (hbase : attributeBase o name X.env (eval o X.env) = eval o X.env := by rfl)
    (hfew : ((backTo cpos (starEach (e :: es) X.env)).all (fun x => !x.1) && (backToKw cpos (keywordEach [] X.env)).all (fun x => x.1.isSome)
      && decide ((e :: es).length + ([] : List Keyword).length + (if ([] : List Keyword).isEmpty then 0 else 1) < 30)) = true := by rfl)
    (hline : (apos.endLine == cpos.line) = true := by rfl) (hs : starEach (e :: es) X.env = (false, eval e X.env) :: starEach es X.env := by rfl) (hplain : (backTo cpos (starEach es X.env)).any (·.1) = false := by rfl) :
    PE X (.Call (.Attribute o name apos) (e :: es) [] cpos) (tBMS K T r to t) := by
  subst h; exact pe_bmS pa slot hty hm ho ha hbase hfew hline hs hplain
/-- by truth -/
theorem pt_truthK {a : Expr} {ta : TE} (h : X.K = K) (ha : PE X a ta) (he : ∀ whole, isTrue a X.env whole = (do let v ← whole; standAt a.pos; holding [v] (truthy v))) :
    PT X a (fun σ H Q => ta σ H fun x H' => ∃ k, TruV K x H' k ∧ Q k H') := by subst h; exact pt_truth ha he
theorem pi_enumK {e : Expr} {ta : TA} {p pos tpos : Pos} {elts : List Expr} {kk : Nat} (h : X.K = K) (hg : Gl X "enumerate") (hm : X.mg "enumerate" = none) (ha : PA X [e] ta) (hs : starEach [e] X.env = [(false, eval e X.env)] := by rfl) :
    PI X (.Tuple elts kk tpos) (.Call (.Name "enumerate" p) [e] [] pos) (iEnum K ta) := by subst h; exact pi_enum hg hm ha hs
theorem pi_reversedK {e : Expr} {ta : TA} {p pos : Pos} (h : X.K = K) (hg : Gl X "reversed") (hm : X.mg "reversed" = none) (ha : PA X [e] ta) (hs : starEach [e] X.env = [(false, eval e X.env)] := by rfl) : PI X tg (.Call (.Name "reversed" p) [e] [] pos) (iRev K ta) := by
  subst h; exact pi_reversed hg hm ha hs
theorem pi_zipK {e e2 : Expr} {ta : TA} {p pos tpos : Pos} {elts : List Expr} {kk : Nat} (h : X.K = K) (hg : Gl X "zip") (hm : X.mg "zip" = none) (ha : PA X [e, e2] ta)
    (hs : starEach [e, e2] X.env = (false, eval e X.env) :: starEach [e2] X.env := by rfl) (hpl : (backTo pos (starEach [e2] X.env)).any (·.1) = false := by rfl) :
    PI X (.Tuple elts kk tpos) (.Call (.Name "zip" p) [e, e2] [] pos) (iZip K ta) := by subst h; exact pi_zip hg hm ha hs hpl
theorem pe_listRevK {e : Expr} {te : TE} {p p2 pos pos2 : Pos} (h : X.K = K) (hc : X.calm = true) (hg : Gl X "list") (hm : X.mg "list" = none) (hg2 : Gl X "reversed") (hm2 : X.mg "reversed" = none) (he : PE X e te)
    (hs : starEach [e] X.env = (false, eval e X.env) :: starEach [] X.env := by rfl)
    (hs2 : starEach [.Call (.Name "reversed" p2) [e] [] pos2] X.env = (false, eval (.Call (.Name "reversed" p2) [e] [] pos2) X.env) :: starEach [] X.env := by rfl) :
    PE X (.Call (.Name "list" p) [.Call (.Name "reversed" p2) [e] [] pos2] [] pos) (tListRev K te) := by subst h; exact pe_listRev hc hg hm hg2 hm2 he hs hs2
end
end Gx
set_option Elab.async false
set_option linter.all false
set_option maxRecDepth 100000
set_option maxHeartbeats 2000000
namespace Gx
open PySem PySem.Spec PyProof.Rows L2
/-! ### the end: tables of several defs -/
theorem walk_ofAll {l : PySem.W.OpenLaw} {n k : Nat} {q : Program} {loose : List Str} {XP : (Str → Option Value) → Heap → Prop} {YP : World → Heap → Prop} {d : DefRec} {K : Params → PySem.W.Frag} {CX : World → CXT} {x : Str} (recs : List Str)
    (hn : l.most = some n) (hn2 : n ≤ sizeLine) (hdf : d.params.defaults = []) (hr : Room k callerA) (hrec : ∀ y ∈ recs, ((recsOf q).any fun e => e.name == y) = true) (hY : ∀ (w : World) (h : Heap), YP w h → (K w.params).In h)
    (F : ∀ (w : World) (mg : Str → Option Value) (fa : Addr) (h : Heap), YP w h → (K w.params).In h → h.Ns mainGlobals mg → mg d.name = some (.ref fa) → (∀ y ∈ recs, ∀ f, mg y = some (.ref f) → LamX.OwnTab (K w.params) f h) → LamX.LawAtS l w (K w.params) (CX w) k n x mg fa h)
    (hCX : ∀ (w : World) (H : Hp) (s : Shared) (e : Value) (s' : Shared), CX w [] H s (fun _ _ _ => False) e s' → False) :
    PySem.W.WalkO q loose XP YP l.row.toRowW d [] (fun f vs => PySem.call f vs) := by
  refine Att.attach_callB hn hdf fun w s₀ s₁ mg mb fa o pm cd doc a vs ns G Y ho hd hcd hmg hobj hints hlen hbits hg => ?_
  have KX := hY w _ Y
  have own : ∀ y ∈ recs, ∀ f, mg y = some (.ref f) → LamX.OwnTab (K w.params) f s₁.heap := fun y hy f hf c P o1 fd1 e dd vs1 sl k1 k2 k3 k4 k5 => by
    obtain ⟨dL, hm, hn1⟩ := List.any_eq_true.mp (hrec y hy)
    have hn2 : dL.name = y := beq_iff_eq.mp hn1
    obtain ⟨a', o', fd', c', P', h1, h2, h3, h4, h5, h6⟩ := G.T.tab dL hm
    rw [hn2, hf] at h1
    cases h1
    have g1 := KX _ _ k1
    rw [g1] at h2
    cases h2
    rw [k2] at h3
    cases h3
    rw [k3] at h4
    cases h4
    obtain ⟨⟨oc, vc, e1, _, e3, e4⟩, hP⟩ := h6
    have g2 := KX _ _ k4
    rw [g2] at e1
    cases e1
    cases e3
    rw [k5] at e4
    cases e4
    exact hP
  obtain ⟨fd, cs, sp, hT, nT, C, hb, hsp, hF⟩ := F w mg fa _ Y KX G.T.g hmg own
  exact LamX.law_callTs KX G.T.g G.T.b G.T.builtins G.T.nolimit hg hT nT C G.T.bmain hobj hints (Nat.le_trans hlen hn2) hr hF hb (fun H hH hS => hsp H a ns hlen hbits hH hS) fun H e s' => hCX w H s₁ e s'
/-- a def at its place -/
theorem funT_mk {K : PySem.W.Frag} {x : Str} {st : Stmt} {f c : Addr} {od an : Option Addr} {sl : Array (Option Value)} {oc kV dc pm ct : Value} (l : K.lookup f = some ⟨oc, od, .func (PySem.W.fnOf x x (defArgs st) (defBody st) (defScope st) .none kV dc pm an (.ref c) ct), sl⟩)
    (hc : PySem.W.codeIn K (.ref c) x = true) (hk : PySem.W.keepIn K (.ref f) = true) : FunT K x st f (PySem.W.fnOf x x (defArgs st) (defBody st) (defScope st) .none kV dc pm an (.ref c) ct) c := ⟨⟨oc, od, kV, dc, pm, an, ct, sl, rfl, l, hc⟩, hk⟩
theorem tabB_of {base : Heap} {mg : Str → Option Value} {c P : Addr} (t : LamX.TabB base mg c P) : GxR.TabB base mg c P := ⟨t.1, t.2, t.3⟩
/-- the def's own table, from what is read in the written part -/
theorem tab_own {K : PySem.W.Frag} {h : Heap} {x : Str} {st : Stmt} {f c P : Addr} {fd : FuncData} {e : Value} {dd : Option Addr} {vs : Array Value} {sl : Array (Option Value)} (F : FunT K x st f fd c) (o : LamX.OwnTab K f h) (l : K.lookup c = some ⟨e, dd, .fields vs, sl⟩) (hv : vs[11]? = some (.ref P)) :
    h.get? P = some { cls := .none, data := .fields #[] } := by
  obtain ⟨oc, od, kV, doc, pm, an, ct, osl, rfl, lk, _⟩ := F.ex
  exact o c P _ _ e dd vs sl lk rfl rfl l hv
theorem tabG_nil {H : Hp} {P : Addr} (h : H P = some (.tbl #[])) : GxR.TabG H P := ⟨_, h, trivial⟩
/-- a code object's head, from its fields -/
def hdB (e : Value) (vs : Array Value) (c P : Addr) : Bool := (match e with | .type "code" => true | _ => false) && (match (vs[11]? : Option Value) with | some (.ref P') => P' == P | _ => false) &&
  (match vs.getD 18 .none with | .str _ _ => true | _ => false) && (match vs.getD 7 .none with | .int _ _ => true | _ => false) && (match vs.getD 9 .none with | .bool _ => true | _ => false) && (match vs.getD 10 .none with | .int _ _ => true | _ => false) && c != P
theorem hd_of {K : PySem.W.Frag} {c P : Addr} {e : Value} {dd : Option Addr} {vs : Array Value} {sl : Array (Option Value)} (l : K.lookup c = some ⟨e, dd, .fields vs, sl⟩) (h : hdB e vs c P = true) : PySem.W.codeHdIn K c P = true := by
  unfold PySem.W.codeHdIn
  rw [l]
  unfold hdB at h
  simp only [Bool.and_eq_true] at h
  obtain ⟨⟨⟨⟨⟨⟨h1, h2⟩, h3⟩, h4⟩, h5⟩, h6⟩, h7⟩ := h
  split at h1
  · simp only [Bool.and_eq_true]
    exact ⟨⟨⟨⟨⟨h2, h3⟩, h4⟩, h5⟩, h6⟩, h7⟩
  · cases h1
end Gx
set_option Elab.async false
set_option linter.all false
set_option maxRecDepth 100000
set_option maxHeartbeats 2000000
/-! errors of an own class nm whose __init__ stores its one argument as fl, over ValueError or own classes over it -/
namespace PySem
namespace Er
open PySem.W PySem.Calls PyProof.Rows PySem.HandSPX
def eA (fl : Str) (p1 p2 : Pos) : Arguments := { posonlyargs := [], args := [{ arg := "self", annotation := none, pos := p1 }, { arg := fl, annotation := none, pos := p2 }], vararg := none, kwonlyargs := [], kw_defaults := [], kwarg := none, defaults := [] }
def eB (fl : Str) (q1 q2 q3 q4 : Pos) : List Stmt := [.Assign [.Attribute (.Name "self" q1) fl q2] (.Name fl q3) q4]
def eS (fl : Str) : Scope := { kind := .function, names := [(PySem.Str.ofString "self", .local), (fl, .local)], isGenerator := false, isCoroutine := false, more := [] }
/-- what the name fl must be good for -/
structure FlOk (fl : Str) : Prop where
  bnd : ∀ (qn : Str) (doc pm : Value) (an : Option Addr) (cdv ct : Value) (p1 p2 q1 q2 q3 q4 : Pos) (x v : Value), bindArgs (fnOf "__init__" qn (eA fl p1 p2) (eB fl q1 q2 q3 q4) (eS fl) .none .none doc pm an cdv ct) ⟨[x, v], []⟩ = pure [(("self" : Str), x), (fl, v)]
  kd : ∀ x v : Value, (([(("self" : Str), x), (fl, v)] : List (Str × Value)).all fun y => (eS fl).names.lookup y.1 == some NameKind.local || (eS fl).names.lookup y.1 == some NameKind.cell) = true
  l1 : (eS fl).names.lookup ("self" : Str) = some NameKind.local
  l2 : (eS fl).names.lookup fl = some NameKind.local
  b1 : ∀ (qn : Str) (L f : Addr) (cdv x v : Value), bindL (envOfC qn (eS fl) L f cdv).kindOf [(("self" : Str), x), (fl, v)] (fun _ => none) ("self" : Str) = some x
  b2 : ∀ (qn : Str) (L f : Addr) (cdv x v : Value), bindL (envOfC qn (eS fl) L f cdv).kindOf [(("self" : Str), x), (fl, v)] (fun _ => none) fl = some v
  dbg : (fl == ("__debug__" : Str)) = false
/-- the class nm at C, its __init__ at fI, its field fl -/
structure ErT (K : Frag) (mg : Str → Option Value) (nm fl : Str) (C fI : Addr) : Prop where
  gC : mg nm = some (.ref C)
  fo : FlOk fl
  cls : ∃ n1 q N bs bm sn sub ab col dd k0 k1 k2 k3 k5, K.lookup C = some (excClassObj n1 q C N bs bm true sn sub ab col dd k0 k1 k2 k3 k5 "ValueError.__new__") ∧ refsVE bm = true
  sa : findIn K (.ref C) "__setattr__" = some (some (.builtin "object.__setattr__"))
  ga : findIn K (.ref C) "__getattribute__" = some (some (.builtin "BaseException.__getattribute__"))
  gg : findIn K (.ref C) "__getattr__" = some none
  noN : findIn K (.ref C) fl = some none
  iC : findIn K (.ref C) "__init__" = some (some (.ref fI))
  tC : typeIn K (.ref fI) = some (.type "function")
  kC : keepIn K (.ref C) = true
  exC : subIn K (.ref C) (.type "BaseException") = some true
  tyC : typeIn K (.ref C) = some (.type "type")
  hdC : hasDictIn K C = true
  te : exmOne K (.ref C) (.ref C) = some true
  fn : ∃ (oc : Value) (od : Option Addr) (doc pm : Value) (an : Option Addr) (cdv ct : Value) (osl : Array (Option Value)) (p1 p2 q1 q2 q3 q4 : Pos) (qn : Str),
    K.lookup fI = some ⟨oc, od, .func (fnOf "__init__" qn (eA fl p1 p2) (eB fl q1 q2 q3 q4) (eS fl) .none .none doc pm an cdv ct), osl⟩ ∧ codeIn K cdv qn = true
theorem args1 (v : Value) : [v].length ≤ sizeLine := by
  rw [sizeLine_eq]
  exact (by decide : 1 ≤ 16777216)
/-- a local, read in a def's frame -/
theorem ld_loc {M : Model} {s : Shared} {name : Str} {scope : Scope} {L a : Addr} {cd : Value} {m : Str → Option Value} {x : Str} {pos : Pos} {v : Value} {Q : Value → Shared → Prop} {A : Around} {E : Value → Shared → Prop} (hn : s.heap.Ns L m) (hv : m x = some v) (h : Q v s)
    (hk : scope.kind = .function) (hl : scope.names.lookup x = some .local) (hd : (x == ("__debug__" : Str)) = false) :
    wpAny M A (eval (.Name x pos) (envOfC name scope L a cd)) Q E s := wpAny_Name (wpAny_loadName_local hk hl hn hv h) hd
/-- behind __init__ -/
structure EndI (h h' : Heap) (x C dx t1 : Addr) (fl : Str) (v : Value) : Prop where
  keep : ∀ b o, b ≠ x → h.get? b = some o → h'.get? b = some o
  obj : h'.get? x = some { cls := .ref C, dict := some dx, data := .fields #[.ref t1, .none, .none, .none, .bool false, .none] }
  dbig : h.objs.size ≤ dx
  dne : dx ≠ x
  ns : h'.Ns1 dx (fun y => if y = fl then some v else none)
/-- a made one -/
structure Made (h h' : Heap) (e C d : Addr) (fl : Str) (v : Value) : Prop where
  keep : ∀ b o, h.get? b = some o → h'.get? b = some o
  new : h.objs.size ≤ e
  obj : ∃ oe vs, h'.get? e = some oe ∧ oe.cls = .ref C ∧ oe.dict = some d ∧ oe.data = .fields vs ∧ vs[1]? = some .none
  dbig : h.objs.size ≤ d
  dne : d ≠ e
  ns : h'.Ns1 d (fun y => if y = fl then some v else none)
section
variable {prog : Program} {w : World} {A : Around} {E : Value → Shared → Prop} {R : Result → Shared → Prop} {s : Shared} {K : Frag} {mg : Str → Option Value} {nm fl : Str} {C fI : Addr}
theorem er_init (T : ErT K mg nm fl C fI) {x t0 : Addr} {v : Value} (X : K.In s.heap) (hlim : s.heap.NoLimit) (hx : s.heap.get? x = some (excO C t0)) (hnx : K.lookup x = none) (hroom : A.depth < recursionLimit)
    (hq : ∀ h' tk dx, EndI s.heap h' x C dx t0 fl v → R (.ok (.ret .none)) { s with heap := h', toks := tk }) :
    codeAny (model prog w) A (.call (.ref fI) ⟨[.ref x, v], []⟩) R s := by
  obtain ⟨oc, od, doc, pm, an, cdv, ct, osl, p1, p2, q1, q2, q3, q4, qn, ho, hcd⟩ := T.fn
  obtain ⟨n1, q, N, bs, bm, sn, sub, ab, col, dd, k0, k1, k2, k3, k5, hC, hbm⟩ := T.cls
  have hcl : clsIn K C = some { name := n1, bases := bs, mro := .ref C :: bm, ns := N, qualname := q, hasDict := true, slotNames := sn, subclasses := sub, abstract := ab, collection := col, hasDel := false } := by unfold clsIn; rw [hC]
  refine Att.call_fn (binds := [(("self" : Str), .ref x), (fl, v)]) X hlim ho hcd hroom (BindsTo.of_eq ?gb) ?gl (fun s₁ IC => ?_) rfl rfl rfl
  case gb => exact T.fo.bnd qn doc pm an cdv ct p1 p2 q1 q2 q3 q4 (.ref x) v
  case gl => exact T.fo.kd (.ref x) v
  obtain ⟨h₁, tk₁, rfl⟩ := IC.toInCall.same
  have k : ∀ b o, s.heap.get? b = some o → h₁.get? b = some o := IC.toInCall.keep
  have hn := IC.toInCall.ns
  have X₁ : K.In h₁ := X.keeps k
  have hx₁ := k _ _ hx
  show wpAny _ _ (execs _ _) _ _ _
  refine wpAny_execs_cons (plainObj_wpAny_Assign_Attribute ?_)
  refine ld_loc (v := v) hn (T.fo.b2 qn _ fI cdv (.ref x) v) (ld_loc (v := .ref x) hn (T.fo.b1 qn _ fI cdv (.ref x) v) ?_ rfl T.fo.l1 (by decide)) rfl T.fo.l2 T.fo.dbg
  refine set_plain X₁ (ox := excO C t0) (od := none) ⟨hx₁, rfl, rfl, trivial⟩ T.sa ?_
  refine exc_osa X₁ hx₁ hcl (show refsVE (.ref C :: bm) = true from hbm) rfl T.noN (fun h₃ tk₃ dx k₃ dn dne hx₃ hn₃ => ?_)
  show wpAny _ _ (execs _ _) _ _ _
  have z : s.heap.objs.size < h₁.objs.size := hn.lt
  exact wpAny_execs_nil (hq h₃ tk₃ dx ⟨fun b o hb e => k₃ b o hb (k b o e), hx₃, Nat.le_of_lt (Nat.lt_of_lt_of_le z dn), dne, hn₃⟩)
theorem er_made (T : ErT K mg nm fl C fI) {v : Value} (X : K.In s.heap) (hlim : s.heap.NoLimit) (hroom : A.depth + 1 < recursionLimit)
    (hq : ∀ h' tk e d, Made s.heap h' e C d fl v → R (.ok (.ret (.ref e))) { s with heap := h', toks := tk }) :
    codeAny (model prog w) A (.call (.ref C) ⟨[v], []⟩) R s := by
  obtain ⟨n1, q, N, bs, bm, sn, sub, ab, col, dd, k0, k1, k2, k3, k5, hC, hbm⟩ := T.cls
  obtain ⟨hp, g, dr, tk, os⟩ := s
  have k : ∀ b o, hp.get? b = some o → ((hp.push (kdv_tup [v])).push (excO C hp.objs.size)).get? b = some o := fun b o e => Heap.get?_push_of_some _ (Heap.get?_push_of_some _ e)
  have hget : ((hp.push (kdv_tup [v])).push (excO C hp.objs.size)).get? (hp.objs.size + 1) = some (excO C hp.objs.size) := by heap_get
  have hnx : K.lookup (hp.objs.size + 1) = none := by
    cases e : K.lookup (hp.objs.size + 1) with
    | none => rfl
    | some o => exact absurd (Nat.lt_of_succ_lt (Heap.lt_size (show hp.get? (hp.objs.size + 1) = some o from X _ _ e))) (Nat.lt_irrefl _)
  refine call_own F.excBase_ValueError (fun X => refsVE_contains X bm hbm) (X _ _ hC) (looks_findIn X T.iC) (fun self => bind_fn X self T.tC) (args1 v) ?_
  refine er_init (s := ⟨(hp.push (kdv_tup [v])).push (excO C hp.objs.size), g, dr, tk, os⟩) T (X.keeps k) (hlim.keeps k) hget hnx hroom fun h' tk' dx M => ?_
  obtain ⟨k', hx, dn, dne, hns⟩ := M
  have z : hp.objs.size + 1 + 1 ≤ dx := by
    have q := dn
    rw [Heap.size_push, Heap.size_push] at q
    exact q
  exact ⟨rfl, hq h' tk' (hp.objs.size + 1) dx ⟨fun b o e => k' b o (Nat.ne_of_lt (Nat.lt_succ_of_lt (Heap.lt_size e))) (k b o e), Nat.le_succ _, ⟨_, _, hx, rfl, rfl, rfl, rfl⟩, Nat.le_trans (Nat.le_trans (Nat.le_succ _) (Nat.le_succ _)) z, dne, hns⟩⟩
end
theorem flOk_limit : FlOk "limit" := ⟨fun _ _ _ _ _ _ _ _ _ _ _ _ _ _ => by with_unfolding_all rfl, fun _ _ => by with_unfolding_all rfl, by decide +kernel, by decide +kernel, fun _ _ _ _ _ _ => by first | rfl | with_unfolding_all rfl | kernel_rfl, fun _ _ _ _ _ _ => by first | rfl | with_unfolding_all rfl | kernel_rfl, by decide⟩
theorem flOk_reason : FlOk "reason" := ⟨fun _ _ _ _ _ _ _ _ _ _ _ _ _ _ => by with_unfolding_all rfl, fun _ _ => by with_unfolding_all rfl, by decide +kernel, by decide +kernel, fun _ _ _ _ _ _ => by first | rfl | with_unfolding_all rfl | kernel_rfl, fun _ _ _ _ _ _ => by first | rfl | with_unfolding_all rfl | kernel_rfl, by decide⟩
end Er
end PySem
namespace Gx
open PySem PySem.Spec PyProof.Rows L2 PySem.Er
theorem relO_fld {fl : Str} {v : V} {v' : Value} (r : RelV v v') (f : Str) : RelO (List.lookup f [(fl, v)]) (if f = fl then some v' else none) := by
  by_cases h : f = fl
  · rw [if_pos h, h, show List.lookup fl [(fl, v)] = some v by simp [List.lookup]]
    exact r
  · have q : (f == fl) = false := by simpa using h
    rw [if_neg h, show List.lookup f [(fl, v)] = none by simp [List.lookup, q]]
    trivial
section
variable {X : Cx} {C fI : Addr} {nm fl : Str}
/-- nm(e) -/
def tMkEr (C : Addr) (fl : Str) (ta : TA) : L2.St → Hp → XK → Prop := fun σ H Q => ta σ H fun vs H1 => ∃ v, vs = [v] ∧ ∀ d, H1 d = none → Q (.ref C) (some d) (upd H1 d (.xd [(fl, v)]))
theorem pmk_er {a : Expr} {ta : TA} {p pos : Pos} {k : Nat} (T : ErT X.K X.mg nm fl C fI) (hr : Room k X.A) (ha : PA X [a] ta) (hg : Gl X nm) (hdb : (nm == ("__debug__" : Str)) = false := by decide)
    (he : starEach (a :: []) X.env = (false, eval a X.env) :: starEach [] X.env := by rfl) (hpl : (backTo pos (starEach [] X.env)).any (·.1) = false := by rfl) :
    PMk X (.Call (.Name nm p) [a] [] pos) (tMkEr C fl ta) := by
  intro pins s σ H Q I h
  refine wpAny_Call_Name_kw (ld_glob I hg T.gC ?_ hdb)
  refine PySem.W.callWith_K (h₀ := X.base) I.ok.mod.kin T.kC (thn (ha.run pos pins s σ H _ I h) fun us s1 hh => ?_) he hpl
  obtain ⟨vs, H1, I1, r1, v, ev, q1⟩ := hh
  subst ev
  refine ⟨I1.kIn, ?_⟩
  cases r1 with
  | cons rv rn =>
    rename_i v' us'
    cases rn
    show wpAny _ _ (call (.ref C) [v']) _ _ _
    have hlim := I1.nolimit
    obtain ⟨hp, g, dr, tk, os⟩ := s1
    refine wpAny_call (er_made T I1.kIn hlim (by have := hr.dp; omega) fun h' tk' e d M => ?_)
    show MkP X pins σ Q (.ref e) ⟨h', g, dr, tk', os⟩
    obtain ⟨oe, fv, hoe, hc, hd, hdat, h1⟩ := M.obj
    have hns := M.ns
    obtain ⟨G', g1, g2⟩ := restrict h' fun b => decide (b ≠ e)
    have gk : ∀ b, b ≠ e → G'.get? b = h'.get? b := fun b hb => g1 b (decide_eq_true hb)
    have ge : G'.get? e = none := g2 e (by simp)
    have old : ∀ b o, hp.get? b = some o → G'.get? b = some o := fun b o q => (gk b (Nat.ne_of_lt (Nat.lt_of_lt_of_le (Heap.lt_size q) M.new))).trans (M.keep b o q)
    have ob : ObjOk X.prog X.w (upd H1 d (.xd [(fl, v)])) G' d (.xd [(fl, v)]) := ⟨_, hns.at (fun o q => (gk d M.dne).trans q), fun f => relO_fld rv f⟩
    have J : Inv X pins σ (upd H1 d (.xd [(fl, v)])) ⟨G', g, dr, tk', os⟩ := I1.laid (t' := tk') old M.dbig ob
    refine ⟨e, oe, fv, ⟨G', g, dr, tk', os⟩, _, .ref C, some d, rfl, J, fun b o q => ?_, ge, hoe, ⟨hc, hd⟩, hdat, h1, ?_, rfl, I1.bare, raises_own T.exC T.tyC, q1 d (I1.hok.fresh M.dbig)⟩
    · have hb : b ≠ e := fun hb => by
        have q' : G'.get? b = some o := q
        rw [hb, ge] at q'
        cases q'
      exact (gk b hb).symm.trans q
    · rw [upd_ne (Ne.symm M.dne)]
      exact I1.hok.fresh M.new
/-- raise nm(e) -/
def tRaiseEr (C : Addr) (fl : Str) (W : WX) (ta : TA) : TS := fun _ σ H => tMkEr C fl ta σ H fun cls d H' => W cls d σ H'
theorem ps_raiseEr {a : Expr} {ta : TA} {W : WX} {p pos pos2 : Pos} {k : Nat} (hc : X.calm = true) (T : ErT X.K X.mg nm fl C fI) (hr : Room k X.A) (tk : Takes X W) (ha : PA X [a] ta) (hg : Gl X nm) (hdb : (nm == ("__debug__" : Str)) = false := by decide)
    (he : starEach (a :: []) X.env = (false, eval a X.env) :: starEach [] X.env := by rfl) (hpl : (backTo pos (starEach [] X.env)).any (·.1) = false := by rfl) :
    PS X (.Raise (some (.Call (.Name nm p) [a] [] pos)) none pos2) (tRaiseEr C fl W ta) := ps_raise hc tk (pmk_er T hr ha hg hdb he hpl)
/-- e.fl, e the error that the suite holds (at a; its class, its dict) -/
def tErFld (C : Addr) (fl : Str) (a : Addr) (cls : Value) (d : Option Addr) (te : TE) : TE := fun σ H Q => te σ H fun x H1 => x = .ref a ∧ cls = .ref C ∧ ∃ (dd : Addr) (v : V), d = some dd ∧ H1 dd = some (.xd [(fl, v)]) ∧ Q v H1
theorem pe_erFld {a : Addr} {oe : Obj} {cls : Value} {d : Option Addr} {pn : List (Addr × Obj)} {e : Expr} {te : TE} {pos : Pos} (T : ErT X.K X.mg nm fl C fI) (hz : Zc cls d oe) (hf : ∃ vs, oe.data = .fields vs) (he : PE (X.suite a ((a, oe) :: pn)) e te)
    (hb : attributeBase e fl X.env (eval e X.env) = eval e X.env := by rfl) :
    PE (X.suite a ((a, oe) :: pn)) (.Attribute e fl pos) (tErFld C fl a cls d te) := by
  refine ⟨fun pins s σ H Q I h => ?_⟩
  refine attr_of hb (thn (he.run pins s σ H _ I h) fun u s1 hh => ?_)
  obtain ⟨x, H1, I1, rx, rfl, rfl, dd, v, rfl, ea, q⟩ := hh
  obtain rfl : u = Value.ref a := rx
  obtain ⟨ha, _⟩ := I1.pin (a, oe) (List.mem_append_left _ List.mem_cons_self)
  obtain ⟨vs, hd⟩ := hf
  obtain ⟨mA, hns, hr⟩ := (show ObjOk X.prog X.w H1 s1.heap dd (.xd [(fl, v)]) from I1.hok dd _ ea)
  obtain ⟨od, ho, hl⟩ := lookIn_ns hns
  obtain ⟨u, hu, ru⟩ := RelO.some_of (v := v) (o := mA fl) (by
    have q := hr fl
    rw [show List.lookup fl [(fl, v)] = some v by simp [List.lookup]] at q
    exact q)
  have J : PySem.W.InstAt s1.heap a oe C (some od) := ⟨ha, hz.1, by unfold PySem.W.notCls; rw [hd], by rw [hz.2]; exact ho⟩
  exact HandSPX.exc_get I1.kIn J T.ga T.gg T.exC (PySem.W.findObj_own T.hdC T.noN rfl (by rw [hl, hu])) (handed_of ru) ⟨v, H1, I1.tok _, ru, q⟩
/-- what the class says, so that isinstance asks its errors rightly -/
structure ErI (K : PySem.W.Frag) (D : Addr) : Prop where
  cl : (PySem.W.clsIn K D).isSome = true
  ha : PySem.W.findIn K (.ref D) "__class__" = some (some (.builtin "object.__class__"))
  hn : PySem.W.specialIn K (.builtin "object.__class__") "__get__" = some (some (.builtin "getset_descriptor.__get__"))
  ht : PySem.W.takesIn K (.builtin "object.__class__") = some true
  hm : PySem.W.mroIn K D (.type "object") = some true
/-- isinstance(e, c), e the error that the suite holds -/
def rIsEr (K : PySem.W.Frag) (D a : Addr) (cls : Value) (d : Option Addr) : List V → Hp → VK → Prop := fun xs H Q => cls = .ref D ∧ ∃ (c : V) (cv : Value) (b : Bool) (dd : Addr) (fs : List (Str × V)), xs = [.ref a, c] ∧ (∀ u, RelV c u → u = cv) ∧ d = some dd ∧ H dd = some (.xd fs) ∧ PySem.W.kitOne K (.ref D) cv = some b ∧ Q (.bl b) H
theorem call_isEr {a : Addr} {oe : Obj} {cls : Value} {d : Option Addr} {pn : List (Addr × Obj)} (T : ErT X.K X.mg nm fl C fI) (Ti : ErI X.K C) (hz : Zc cls d oe) (hf : ∃ vs, oe.data = .fields vs) : CallR (X.suite a ((a, oe) :: pn)) (.builtin "isinstance") (rIsEr X.K C a cls d) := by
  intro pins s σ H xs us Q I r h
  obtain ⟨rfl, c, cv, b, dd, fs, rfl, hcv, rfl, ea, e, q⟩ := h
  obtain ⟨u1, u2, rfl, r1, r2⟩ := vals2 r
  have ec := hcv _ r2
  subst ec
  obtain rfl : u1 = Value.ref a := r1
  obtain ⟨ha, _⟩ := I.pin (a, oe) (List.mem_append_left _ List.mem_cons_self)
  obtain ⟨vs, hd⟩ := hf
  obtain ⟨mA, hns, _⟩ := (show ObjOk X.prog X.w H s.heap dd (.xd fs) from I.hok dd _ ea)
  obtain ⟨od, ho, hl⟩ := lookIn_ns hns
  have J : PySem.W.InstAt s.heap a oe C (some od) := ⟨ha, hz.1, by unfold PySem.W.notCls; rw [hd], by rw [hz.2]; exact ho⟩
  exact PySem.W.kia_one (PySem.W.kitx_exc Ti.cl T.ga T.gg T.exC Ti.ha Ti.hn Ti.ht Ti.hm) I.kIn J e (fun z => nomatch z) fun tk => ⟨.bl b, H, I.kept (t' := tk) fun _ _ z => z, rfl, q⟩
end
end Gx
set_option Elab.async false
set_option linter.all false
set_option maxRecDepth 100000
set_option maxHeartbeats 2000000
/-! several except clauses, each with a name of its own or without one; C(..) in a try; defs that raise, whose code object is known -/
namespace Gx
open PySem PySem.Spec PyProof.Rows L2
/-- a clause: the class, the slot of its name (if it has one), what its suite wishes -/
abbrev Cls1 := Value × Option Nat × (Addr → Value → Option Addr → TS)
/-- the ends of a suite whose name is in slot i -/
def endsA (D : Ends) (i : Nat) : Ends := { nx := fun σ' H' => D.nx (σ'.set i none) H', rt := D.rt, bk := fun σ' H' => D.bk (σ'.set i none) H', ct := fun σ' H' => D.ct (σ'.set i none) H' }
def suiteA (o : Option Nat) (ts : Addr → Value → Option Addr → TS) (a : Addr) (cls : Value) (d : Option Addr) (D : Ends) (σ : L2.St) (H : Hp) : Prop := match o with
  | some i => ts a cls d (endsA D i) (σ.set i (some (.ref a))) H
  | none => ts a cls d D σ H
def wClauses (K : PySem.W.Frag) (Wout : WX) (D : Ends) : List Cls1 → WX
  | [] => Wout
  | c :: r => fun cls d σ H => ∃ b, PySem.W.exmOne K cls c.1 = some b ∧ (b = true → ∀ a, H a = none → suiteA c.2.1 c.2.2 a cls d D σ H) ∧ (b = false → wClauses K Wout D r cls d σ H)
inductive Clauses (X : Cx) : List ExceptHandler → List Cls1 → Prop
  | nil : Clauses X [] []
  | as_ {x n : Str} {c : Value} {i : Nat} {ts : Addr → Value → Option Addr → TS} {b₀ : Stmt} {suite : List Stmt} {np pos' : Pos} {hds : List ExceptHandler} {l : List Cls1} (hi : X.N[i]? = some n) (hln : X.env.kindOf n = some .local) (hc : Names X x c)
      (hsu : ∀ (a : Addr) (oe : Obj) (cls : Value) (d : Option Addr) (pn : List (Addr × Obj)), Zc cls d oe → (∃ vs, oe.data = .fields vs) → PSs (X.suite a ((a, oe) :: pn)) (b₀ :: suite) (ts a cls d)) (r : Clauses X hds l) :
      Clauses X (.ExceptHandler (some (.Name x np)) (some n) (b₀ :: suite) pos' :: hds) ((c, some i, ts) :: l)
  | no_ {x : Str} {c : Value} {ts : Addr → Value → Option Addr → TS} {b₀ : Stmt} {suite : List Stmt} {np pos' : Pos} {hds : List ExceptHandler} {l : List Cls1} (hc : Names X x c)
      (hsu : ∀ (a : Addr) (oe : Obj) (cls : Value) (d : Option Addr) (pn : List (Addr × Obj)), Zc cls d oe → (∃ vs, oe.data = .fields vs) → PSs (X.suite a ((a, oe) :: pn)) (b₀ :: suite) (ts a cls d)) (r : Clauses X hds l) :
      Clauses X (.ExceptHandler (some (.Name x np)) none (b₀ :: suite) pos' :: hds) ((c, none, ts) :: l)
section
variable {X : Cx} {body : List Stmt} {h₀ : ExceptHandler} {hds : List ExceptHandler} {l : List Cls1} {pos : Pos} {tb : WX → TS} {Wout : WX}
/-- the body's reading, what it raises wished by the clauses in their order -/
def tTryC (K : PySem.W.Frag) (Wout : WX) (l : List Cls1) (tb : WX → TS) : TS := fun D σ H => tb (wClauses K Wout D l) D σ H
theorem ps_tryC (hs : X.stack = X.env :: X.outer) (hf : X.env.frame = some X.env.locals) (hN : X.N.Nodup) (tk : Takes X Wout)
    (hb : ∀ (W : WX) (pn : List (Addr × Obj)) (xe : Value → Shared → Prop), Takes (X.tr pn xe) W → PassesOwn (model X.prog X.w) X.A X.env xe → PSs (X.tr pn xe) body (tb W))
    (hh : Clauses X (h₀ :: hds) l) : PS X (.Try body (h₀ :: hds) [] [] pos) (tTryC X.K Wout l tb) := by
  refine ⟨fun pins s σ H D I h => ?_⟩
  have ok := I.ok
  have hfr : X.A.frames = some (X.env :: X.outer) := by rw [ok.frames, hs]
  refine wpAny_Try_except ?_
  refine wpAny_mono ((hb (wClauses X.K Wout D l) (X.pn ++ pins) (fun e s₁ => wpAny (model X.prog X.w) X.A (noteFrame e X.env) (fun _ s₂ => wpAny (model X.prog X.w) X.A (setFlight e none) (fun _ s₃ =>
    wpAny (model X.prog X.w) X.A (handleBy e X.env (h₀ :: hds)) (SP X pins D) X.xe s₃) X.xe s₂) X.xe s₁) (fun u s' xx => ?_) PassesOwn.looking).run [] s σ H D (I.toTry _) h) (fun f s1 hsp => ?_) (fun e s1 he => he)
  · obtain ⟨a, B, sI, pins', σ', H', cls, d, rfl, J', nb, up, sky, na, os, ag, wish⟩ := xx
    have J : Inv X pins σ' H' sI := J'.ofTry ok
    have sky' : Sky B (X.env :: X.outer) a (Zc cls d) X.env.locals s'.heap := by rw [← hs]; exact sky
    show wpAny (model X.prog X.w) X.A (noteFrame (.ref a) X.env) _ _ _
    refine Sky.land Zc.steady hfr hf sky' fun h3 fl3 up3 => ?_
    have J3 : Inv X pins σ' H' { s' with heap := h3 } := J.landed nb fl3.1 (up.trans up3) os ag
    obtain ⟨oe3, vs3, he3, hz3, hd3⟩ := fl3.there
    have nfr : a ∉ frs (X.env :: X.outer) := fun hm => by
      obtain ⟨_, o', e', hnf⟩ := fl3.2.2.1.mem hm
      rw [he3] at e'
      cases e'
      exact hnf _ hd3
    have nL : a ≠ X.env.locals := fun z => nfr (List.mem_filterMap.mpr ⟨X.env, List.mem_cons_self, by rw [hf, z]⟩)
    have nF : a ∉ X.fs := fun hm => by
      obtain ⟨e, he, q⟩ := List.mem_filterMap.mp hm
      exact nfr (List.mem_filterMap.mpr ⟨e, List.mem_cons_of_mem _ he, q⟩)
    have S3 := J3.suite he3 hd3 na nL nF
    have LT : PySem.W.Looks (model X.prog X.w) h3 (typeOf (.ref a)) cls := fun A Q E s k q => wpAny_typeOf_ref (k _ _ he3) (by rw [hz3.1]; exact q)
    have test : ∀ {x : Str} {np : Pos} {c : Value} {Q : Value → Shared → Prop} {E : Value → Shared → Prop}, Names X x c → Q c { s' with heap := h3 } → wpAny (model X.prog X.w) (X.A.mark (some (.ref a))) (eval (.Name x np) X.env) Q E { s' with heap := h3 } := fun {x np c Q E} hc q => by
      obtain ⟨hg, hdbg, hm | ⟨hm, hv, hnn⟩⟩ := hc
      · exact ld_glob (X := X.suite a ((a, oe3) :: (X.pn ++ pins))) S3 hg hm q hdbg
      · exact ld_blt (X := X.suite a ((a, oe3) :: (X.pn ++ pins))) S3 hg hm hv q hnn hdbg
    have go : ∀ {hds' : List ExceptHandler} {l' : List Cls1}, Clauses X hds' l' → wClauses X.K Wout D l' cls d σ' H' →
        wpAny (model X.prog X.w) X.A (handleBy (.ref a) X.env hds') (SP X pins D) X.xe { s' with heap := h3 } := by
      intro hds' l' hk
      induction hk with
      | nil =>
        intro wish
        refine wpAny_handleBy_nil ?_
        obtain ⟨k1, k2, k3, oe, vs, T, oT, ts', he, hz, hd, h1, hr⟩ := id fl3
        unfold PySem.passOn
        refine wpAny_bind (wpAny_field he hd h1 ?_)
        rw [if_neg (show ¬ ((Value.ref T == Value.none) = true) from by simp)]
        have fin : wpAny (model X.prog X.w) X.A (setFlight (.ref a) X.env.frame) (fun _ s4 => wpAny (model X.prog X.w) X.A (throw (.ref a) : Sem Flow) (SP X pins D) X.xe s4) X.xe { s' with heap := h3 } := by
          rw [hf]
          refine HandSPX.setFlight_upZ fl3 fun h4 hh4 up4 => wpAny_throw (tk _ _ ?_)
          exact ⟨a, B, sI, pins, σ', H', cls, d, rfl, J, nb, (up.trans up3).trans up4, .inr (.inr (by rw [hs]; exact hh4)), na, os, ag, wish⟩
        first
          | exact wpAny_bind (wpAny_pure (wpAny_bind fin))
          | exact wpAny_bind fin
      | @as_ x n c i ts b₀ suite np pos' hds2 l2 hi hln hc hsu r ih =>
        rintro ⟨b, hb1, hyes, hno⟩
        refine wpAny_handleBy_cons (codeAny_handlers_test ?_) (by intro q; cases q)
        refine test hc ((PySem.W.exm_one (M := model X.prog X.w) (J3.kIn) LT hb1).here ?_)
        cases b with
        | true =>
          refine codeAny_handlers_suite_as ?_
          refine HandSPX.lands_againZ fl3 fun h4 fl4 up4 => ?_
          have J4 : Inv X pins σ' H' { s' with heap := h4 } := J.landed nb fl4.1 ((up.trans up3).trans up4) os ag
          obtain ⟨oe4, vs4, he4, hz4, hd4⟩ := fl4.there
          have S4 := J4.suite he4 hd4 na nL nF
          refine store_ok (X := X.suite a ((a, oe4) :: (X.pn ++ pins))) (v := .ref a) S4 hN hi (.inl hln) rfl (fun s5 S5 => ?_) (.inr hln)
          refine wpAny_mono ((hsu a oe4 cls d (X.pn ++ pins) hz4 ⟨_, hd4⟩).run [] s5 _ H' _ S5 (hyes rfl a na)) (fun f s6 hsp => ?_) (fun _ _ z => False.elim z)
          have end_ : ∀ {σ6 : L2.St} {H6 : Hp} {Q : Shared → Prop}, Inv (X.suite a ((a, oe4) :: (X.pn ++ pins))) [] σ6 H6 s6 → (∀ s7, Inv X pins (σ6.set i none) H6 s7 → Q s7) →
              wpAny (model X.prog X.w) X.A (do bindName X.env n .none; unbindBehindTheSuite X.env n pos') (fun _ s7 => Q s7) X.xe s6 := fun S6 hq => gone_ok (S6.unsuite ok) hN hi hln hq
          cases f with
          | next =>
            obtain ⟨σ6, H6, S6, q6⟩ := hsp
            exact end_ S6 fun s7 J7 => ⟨_, _, J7, q6⟩
          | brk =>
            obtain ⟨σ6, H6, S6, q6⟩ := hsp
            exact end_ S6 fun s7 J7 => ⟨_, _, J7, q6⟩
          | cont =>
            obtain ⟨σ6, H6, S6, q6⟩ := hsp
            exact end_ S6 fun s7 J7 => ⟨_, _, J7, q6⟩
          | ret u =>
            obtain ⟨v6, σ6, H6, S6, r6, q6⟩ := hsp
            exact end_ S6 fun s7 J7 => ⟨_, _, _, J7, r6, q6⟩
        | false => exact ih (hno rfl)
      | @no_ x c ts b₀ suite np pos' hds2 l2 hc hsu r ih =>
        rintro ⟨b, hb1, hyes, hno⟩
        refine wpAny_handleBy_cons (codeAny_handlers_test ?_) (by intro q; cases q)
        refine test hc ((PySem.W.exm_one (M := model X.prog X.w) (J3.kIn) LT hb1).here ?_)
        cases b with
        | true =>
          refine codeAny_handlers_suite ?_
          refine HandSPX.lands_againZ fl3 fun h4 fl4 up4 => ?_
          have J4 : Inv X pins σ' H' { s' with heap := h4 } := J.landed nb fl4.1 ((up.trans up3).trans up4) os ag
          obtain ⟨oe4, vs4, he4, hz4, hd4⟩ := fl4.there
          refine wpAny_mono ((hsu a oe4 cls d (X.pn ++ pins) hz4 ⟨_, hd4⟩).run [] _ _ H' _ (J4.suite he4 hd4 na nL nF) (hyes rfl a na)) (fun f s6 hsp => ?_) (fun _ _ z => False.elim z)
          cases f with
          | next =>
            obtain ⟨σ6, H6, S6, q6⟩ := hsp
            exact ⟨_, _, S6.unsuite ok, q6⟩
          | brk =>
            obtain ⟨σ6, H6, S6, q6⟩ := hsp
            exact ⟨_, _, S6.unsuite ok, q6⟩
          | cont =>
            obtain ⟨σ6, H6, S6, q6⟩ := hsp
            exact ⟨_, _, S6.unsuite ok, q6⟩
          | ret u =>
            obtain ⟨v6, σ6, H6, S6, r6, q6⟩ := hsp
            exact ⟨_, _, _, S6.unsuite ok, r6, q6⟩
        | false => exact ih (hno rfl)
    exact go hh wish
  · cases f with
    | next =>
      obtain ⟨σ', H', J', q⟩ := hsp
      exact wpAny_execs_nil ⟨σ', H', J'.ofTry ok, q⟩
    | brk =>
      obtain ⟨σ', H', J', q⟩ := hsp
      exact ⟨σ', H', J'.ofTry ok, q⟩
    | cont =>
      obtain ⟨σ', H', J', q⟩ := hsp
      exact ⟨σ', H', J'.ofTry ok, q⟩
    | ret u =>
      obtain ⟨v, σ', H', J', r, q⟩ := hsp
      exact ⟨v, σ', H', J'.ofTry ok, r, q⟩
end
/-! ### C(..) where an error is wished for at the slots -/
section
variable {X : Cx} {CX : CXT} {k : Nat} {f C : Addr} {fd : FuncData} {ps : List Str} {sp : Sp} {E : L2.St → XK} {x : Str} {p pos : Pos} {e : Expr} {es : List Expr} {t : TA}
theorem run_makeS {pins : List (Addr × Obj)} {σ : L2.St} {H : Hp} {s : Shared} {Q : VK} {us : List Value} {vs : List V} (M : Mk X.K C f) (F : FnOk X.prog X.w X.K X.mg X.base CX k f fd ps sp) (hr : Room (k + 1) X.A) (hb : Binds X.K fd ps [])
    (hx : PassesAt CX X σ (E σ)) (I : Inv X pins σ H s) (r : Vals vs us)
    (h : ∀ o dx, H o = none → H dx = none → dx ≠ o → sp (.ref o :: vs) (upd (upd H dx (.own o)) o (.ins C dx [])) (fun v H2 => v = .non ∧ Q (.ref o) H2) (E σ)) :
    wpAny (model X.prog X.w) X.A (call (.ref C) us) (EP X pins σ Q) X.xe s := by
  have hq := h (s.heap.objs.size + 1) s.heap.objs.size (I.hok.fresh (Nat.le_succ _)) (I.hok.fresh (Nat.le_refl _)) (Nat.ne_of_lt (Nat.lt_succ_self _))
  have I2 := Inv.made (C := C) I
  have r2 : Vals (V.ref (s.heap.objs.size + 1) :: vs) (Value.ref (s.heap.objs.size + 1) :: us) := .cons rfl r
  have hl : (Value.ref (s.heap.objs.size + 1) :: us ++ []).length = ps.length := by
    have e := r2.length
    rw [F.len _ _ _ _ hq] at e
    rw [List.append_nil]
    exact e.symm
  have b := hb _ (Value.ref (s.heap.objs.size + 1) :: us) I2.kIn hl
  rw [List.append_nil] at b
  refine wpAny_call (make_map (f := f) I.kIn M.makes M.init (beq_iff_eq.mp M.fn) (codeAny_mono (F.run _ X.stack _ _ ⟨Value.ref (s.heap.objs.size + 1) :: us, []⟩ (Value.ref (s.heap.objs.size + 1) :: us) _ _ (E σ) (hr.make C us [])
    (I2.env0.make C us []) b r2 hq) fun r s' hq' => ?_))
  cases r with
  | error e => exact hx pins _ _ e s' I2 hq'
  | ok fl =>
    cases fl with
    | ret u =>
      obtain ⟨v, H', I3, rv, ev, q3⟩ := I2.after hq'
      subst ev
      exact ⟨rv, ⟨V.ref (s.heap.objs.size + 1), H', I3, rfl, q3⟩⟩
    | next => exact False.elim hq'
    | brk => exact False.elim hq'
    | cont => exact False.elim hq'
def tMakeS (C : Addr) (sp : Sp) (E : L2.St → XK) (t : TA) : TE := fun σ H Q => t σ H fun vs H1 => ∀ o dx, H1 o = none → H1 dx = none → dx ≠ o → sp (.ref o :: vs) (upd (upd H1 dx (.own o)) o (.ins C dx [])) (fun v H2 => v = .non ∧ Q (.ref o) H2) (E σ)
theorem pe_makeS (M : Mk X.K C f) (F : FnOk X.prog X.w X.K X.mg X.base CX k f fd ps sp) (hr : Room (k + 1) X.A) (hg : Gl X x) (hm : X.mg x = some (.ref C)) (hb : Binds X.K fd ps []) (hx : ∀ σ, PassesAt CX X σ (E σ))
    (ha : PA X (e :: es) t) (hdb : (x == ("__debug__" : Str)) = false := by decide) (he : starEach (e :: es) X.env = (false, eval e X.env) :: starEach es X.env := by rfl) (hpl : (backTo pos (starEach es X.env)).any (·.1) = false := by rfl) :
    PE X (.Call (.Name x p) (e :: es) [] pos) (tMakeS C sp E t) := by
  refine ⟨fun pins s σ H Q I h => ?_⟩
  refine wpAny_Call_Name_kw (ld_glob I hg hm ?_ hdb)
  refine PySem.W.callWith_K (h₀ := X.base) I.ok.mod.kin M.kp (thn (ha.run pos pins s σ H _ I h) fun us s1 ⟨vs, H1, I1, r, q⟩ => ⟨I1.kIn, ?_⟩) he hpl
  exact run_makeS M F hr hb (hx σ) I1 r q
end
/-! ### defs that raise -/
section
variable {P : Program} {w : World} {K : PySem.W.Frag} {mg : Str → Option Value} {base : Heap}
structure FunQ (K : PySem.W.Frag) (x qual : Str) (st : Stmt) (f : Addr) (fd : FuncData) (c : Addr) : Prop where
  ex : ∃ (oc : Value) (od : Option Addr) (kV doc pm : Value) (an : Option Addr) (ct : Value) (osl : Array (Option Value)),
    fd = PySem.W.fnOf x qual (defArgs st) (defBody st) (defScope st) .none kV doc pm an (.ref c) ct ∧ K.lookup f = some ⟨oc, od, .func fd, osl⟩ ∧ PySem.W.codeIn K (.ref c) qual = true
  kp : PySem.W.keepIn K (.ref f) = true
theorem FunT.okX {x : Str} {st : Stmt} {f c : Addr} {fd : FuncData} {N ps : List Str} {k : Nat} {sp : Sp} (F : FunT K x st f fd c) (S : FnScope N ps (defScope st)) (len : ∀ vs H Q E, sp vs H Q E → vs.length = ps.length)
    (hbody : ∀ (A : Around) (outer : List Env) (s : Shared) (H : Hp) (vs : List V) (Q : VK) (E : XK), Room k (A.deeper (envOfC x (defScope st) s.heap.objs.size f (.ref c))) → sp vs H Q E →
      ∃ t, PSs (cxOf (L2.CX P w) P w K mg base N x (defScope st) f (.ref c) A outer s H E) (defBody st) t ∧ t { nx := fun _ H' => Q .non H', rt := Q } (start N vs) H) : FnOk P w K mg base (L2.CX P w) (k + 1) f fd ps sp := by
  obtain ⟨oc, od, kV, doc, pm, an, ct, osl, rfl, lk, hcd⟩ := F.ex
  exact fn_of lk hcd S len fun A outer s H vs Q E hr hsp => hbody A outer s H vs Q E hr hsp
theorem FunQ.okX {x qual : Str} {st : Stmt} {f c : Addr} {fd : FuncData} {N ps : List Str} {k : Nat} {sp : Sp} (F : FunQ K x qual st f fd c) (S : FnScope N ps (defScope st)) (len : ∀ vs H Q E, sp vs H Q E → vs.length = ps.length)
    (hbody : ∀ (A : Around) (outer : List Env) (s : Shared) (H : Hp) (vs : List V) (Q : VK) (E : XK), Room k (A.deeper (envOfC qual (defScope st) s.heap.objs.size f (.ref c))) → sp vs H Q E →
      ∃ t, PSs (cxOf (L2.CX P w) P w K mg base N qual (defScope st) f (.ref c) A outer s H E) (defBody st) t ∧ t { nx := fun _ H' => Q .non H', rt := Q } (start N vs) H) : FnOk P w K mg base (L2.CX P w) (k + 1) f fd ps sp := by
  obtain ⟨oc, od, kV, doc, pm, an, ct, osl, rfl, lk, hcd⟩ := F.ex
  exact fn_of lk hcd S len fun A outer s H vs Q E hr hsp => hbody A outer s H vs Q E hr hsp
end
end Gx
namespace Gx
open PySem PySem.Spec PyProof.Rows L2
/-- no error leaves -/
theorem passD {X : Cx} : Passes (L2.CX X.prog X.w) X (fun _ _ _ => False) := fun _ _ _ _ _ _ _ ⟨_, _, _, _, _, _, _, _, _, _, _, _, h⟩ => h.elim
end Gx
set_option Elab.async false
set_option linter.all false
set_option maxRecDepth 100000
set_option maxHeartbeats 2000000
namespace Sn
open PySem PySem.Spec PyProof.Rows L2
/-! ### masks: also 511 -/
/-- the runs of zeros, as a list -/
def runL (m : Nat) : Nat → Nat → List Nat
  | 0, _ => []
  | f + 1, c => c :: runL m f ((c * 5 + 1) % (m + 1))
theorem runL_at (m : Nat) : ∀ (f c k : Nat), k < f → (runL m f c)[k]? = some (lcgI m c k)
  | 0, _, _, h => absurd h (Nat.not_lt_zero _)
  | f + 1, c, 0, _ => rfl
  | f + 1, c, k + 1, h => by
    show (runL m f ((c * 5 + 1) % (m + 1)))[k]? = _
    rw [runL_at m f _ k (Nat.lt_of_succ_lt_succ h)]
    have key : ∀ k, lcgI m ((c * 5 + 1) % (m + 1)) k = lcgI m c (k + 1) := fun k => by
      induction k with
      | zero => rfl
      | succ k ih =>
        show (lcgI m _ k * 5 + 1) % (m + 1) = (lcgI m c (k + 1) * 5 + 1) % (m + 1)
        rw [ih]
    rw [key]
theorem all511 : ((List.range 512).all fun j => (runL 511 512 0).contains j) = true := by decide +kernel
theorem round511 : lcgI 511 0 512 = 0 := by decide +kernel
theorem lcgI_le {m i : Nat} (hi : i ≤ m) : ∀ k, lcgI m i k ≤ m
  | 0 => hi
  | k + 1 => Nat.le_of_lt_succ (Nat.mod_lt _ (Nat.succ_pos _))
theorem lcgI_plus (m i a : Nat) : ∀ k, lcgI m (lcgI m i a) k = lcgI m i (a + k)
  | 0 => rfl
  | k + 1 => by
    show (lcgI m (lcgI m i a) k * 5 + 1) % (m + 1) = (lcgI m i (a + k) * 5 + 1) % (m + 1)
    rw [lcgI_plus m i a k]
theorem from0 {j : Nat} (hj : j ≤ 511) : ∃ b, b < 512 ∧ lcgI 511 0 b = j := by
  have h := List.all_eq_true.mp all511 j (List.mem_range.mpr (Nat.lt_succ_of_le hj))
  have hm : j ∈ runL 511 512 0 := by simpa using h
  obtain ⟨b, hb, e⟩ := List.getElem_of_mem hm
  have hl : ∀ f c, (runL 511 f c).length = f := fun f => by
    induction f with
    | zero => intro c; rfl
    | succ f ih => intro c; show (runL 511 f _).length + 1 = f + 1; rw [ih]
  rw [hl] at hb
  refine ⟨b, hb, ?_⟩
  have e2 := runL_at 511 512 0 b hb
  rw [List.getElem?_eq_getElem (by rw [hl]; exact hb), e] at e2
  exact (Option.some.inj e2).symm
theorem any511 {i j : Nat} (hi : i ≤ 511) (hj : j ≤ 511) : ∃ k, k ≤ 512 ∧ lcgI 511 i k = j := by
  obtain ⟨a, ha, ea⟩ := from0 hi
  obtain ⟨b, hb, eb⟩ := from0 hj
  by_cases h : a ≤ b
  · refine ⟨b - a, by omega, ?_⟩
    rw [← ea, lcgI_plus, show a + (b - a) = b by omega]
    exact eb
  · refine ⟨512 - a + b, by omega, ?_⟩
    rw [← ea, lcgI_plus, show a + (512 - a + b) = 512 + b by omega, ← lcgI_plus, round511]
    exact eb
/-- a mask of the tables here: every slot is met in time -/
structure Mk (m : Nat) : Prop where
  odd : m % 2 = 1
  le : m ≤ 511
  run : ∀ (h : Int) (j : Nat), j ≤ m → ∃ n, n ≤ m + 13 ∧ runI m (SetTable.bits h) n = j
theorem mk_of {m : Nat} (h : MaskOk m) : Mk m := ⟨mask_odd h, by rcases h with e | e | e <;> omega, fun x j hj => by
  obtain ⟨n, hn, e⟩ := run_meets h x hj
  exact ⟨n, Nat.le_succ_of_le hn, e⟩⟩
theorem mk511 : Mk 511 := ⟨rfl, Nat.le_refl _, fun h j hj => by
  obtain ⟨k, hk, e⟩ := any511 (runI_le 511 (SetTable.bits h) 12) hj
  exact ⟨12 + k, by omega, by rw [runI_tail (bits_lt h)]; exact e⟩⟩
theorem turns_ge (m : Nat) : m + 13 < SetTable.turns m := by unfold SetTable.turns; omega
theorem Mk.meets {m : Nat} (M : Mk m) (h : Int) {j : Nat} (hj : j ≤ m) : ∃ k, k < 10 * SetTable.turns m ∧ way m h k = j := by
  obtain ⟨n, hn, e⟩ := M.run h j hj
  obtain ⟨k, hk, e2⟩ := run_nth m (SetTable.bits h) n
  have ht := turns_ge m
  exact ⟨k, by omega, (congrArg SetTable.Probe.j e2).trans e⟩
theorem way_in (m : Nat) (h : Int) (k : Nat) : way m h k ≤ m := by
  have hi : SetTable.bits h % (m + 1) ≤ m := Nat.le_of_lt_succ (Nat.mod_lt _ (Nat.succ_pos _))
  have r := runEnd_bd hi
  have q := nth_in (m := m) k (runAt m (SetTable.bits h % (m + 1)) (SetTable.bits h)) (by
    show SetTable.bits h % (m + 1) + (SetTable.runEnd m (SetTable.bits h % (m + 1)) - SetTable.bits h % (m + 1)) ≤ m
    omega)
  exact Nat.le_trans (Nat.le_add_right _ _) q
/-! ### a table of hashes -/
structure Tb (t : SetTable) (hs : List Int) : Prop where
  ris : Ris t.place.toList
  dm : t.dummies = #[]
  sz : t.place.toList.length = hs.length
  mok : Mk t.mask
  bd : ∀ x ∈ t.place.toList, x ≤ t.mask
  reach : ∀ (i : Nat) (h : Int) (j : Nat), hs[i]? = some h → t.place.toList[i]? = some j → ∃ k, way t.mask h k = j ∧ ∀ c, c < k → way t.mask h c ∈ t.place.toList
theorem Tb.first {t : SetTable} {hs : List Int} (T : Tb t hs) (hl : hs.length ≤ t.mask) (h : Int) : ∃ K, K < 10 * SetTable.turns t.mask ∧ way t.mask h K ∉ t.place.toList ∧ ∀ c, c < K → way t.mask h c ∈ t.place.toList := by
  obtain ⟨j, hj, hn⟩ := st_missing t.place.toList (t.mask + 1) (by rw [T.sz]; omega)
  obtain ⟨k, hk, e⟩ := T.mok.meets h (Nat.le_of_lt_succ hj)
  obtain ⟨K, h1, h2, h3⟩ := st_least (p := fun c => way t.mask h c ∉ t.place.toList) k (by rw [e]; exact hn)
  exact ⟨K, Nat.lt_of_le_of_lt h1 hk, h2, fun c hc => Classical.byContradiction fun z => h3 c hc z⟩
theorem Tb.before {t : SetTable} {hs : List Int} (T : Tb t hs) {h : Int} {K i j : Nat} (hK : way t.mask h K ∉ t.place.toList) (hi : hs[i]? = some h) (hj : t.place.toList[i]? = some j) : ∃ k, k < K ∧ way t.mask h k = j := by
  obtain ⟨k, e, hb⟩ := T.reach i h j hi hj
  have hm : way t.mask h k ∈ t.place.toList := by rw [e]; exact List.mem_of_getElem? hj
  refine ⟨k, ?_, e⟩
  rcases Nat.lt_trichotomy k K with c | c | c
  · exact c
  · rw [c] at hm; exact absurd hm hK
  · exact absurd (hb K c) hK
/-- one more, at the first empty slot of its way -/
theorem Tb.put {t : SetTable} {hs : List Int} (T : Tb t hs) {h : Int} {K : Nat} (hK : way t.mask h K ∉ t.place.toList) (hb : ∀ c, c < K → way t.mask h c ∈ t.place.toList) :
    (t.put (way t.mask h K)).2 ≤ hs.length ∧ Tb (t.put (way t.mask h K)).1 (hs.take (t.put (way t.mask h K)).2 ++ h :: hs.drop (t.put (way t.mask h K)).2) ∧ (t.put (way t.mask h K)).1.mask = t.mask ∧ (t.put (way t.mask h K)).1.fill = hs.length + 1 := by
  generalize hj : way t.mask h K = j at hK
  have hjm : j ≤ t.mask := by rw [← hj]; exact way_in _ _ _
  obtain ⟨c1, _, _⟩ := below_cut T.ris j
  have e0 : (t.put j).2 = SetTable.below t.place j := rfl
  have hp1 : SetTable.below t.place j ≤ t.place.toList.length := by rw [Array.length_toList]; exact c1
  have hp2 : SetTable.below t.place j ≤ hs.length := by rw [← T.sz]; exact hp1
  have hat : t.place[SetTable.below t.place j]? ≠ some j := fun e => hK (List.mem_of_getElem? (by rw [Array.getElem?_toList]; exact e))
  have pl := put_place t j
  have up : ∀ {x : Nat}, x ∈ t.place.toList → x ∈ (t.put j).1.place.toList := fun {x} hx => by rw [pl]; exact mem_ins.2 (.inr hx)
  rw [e0]
  refine ⟨hp2, ⟨ris_insert T.ris hat, put_dm T.dm j, ?_, T.mok, fun x hx => ?_, fun i h' j' h1 h2 => ?_⟩, rfl, ?_⟩
  · rw [pl, len_ins _ hp1, len_ins _ hp2, T.sz]
  · rw [pl] at hx
    rcases mem_ins.1 hx with z | z
    · exact z ▸ hjm
    · exact T.bd x z
  · rw [tins_get hs hp2] at h1
    rw [pl, tins_get _ hp1] at h2
    show ∃ k, way t.mask h' k = j' ∧ ∀ c, c < k → _
    by_cases c : i < SetTable.below t.place j
    · rw [if_pos c] at h1 h2
      obtain ⟨k, e, z⟩ := T.reach i h' j' h1 h2
      exact ⟨k, e, fun c hc => up (z c hc)⟩
    · rw [if_neg c] at h1 h2
      by_cases d : i = SetTable.below t.place j
      · rw [if_pos d] at h1 h2
        cases h1; cases h2
        exact ⟨K, hj, fun c hc => up (hb c hc)⟩
      · rw [if_neg d] at h1 h2
        obtain ⟨k, e, z⟩ := T.reach (i - 1) h' j' h1 h2
        exact ⟨k, e, fun c hc => up (z c hc)⟩
  · show (t.put j).1.place.size + (t.put j).1.dummies.size = _
    rw [put_dm T.dm j, ← Array.length_toList, pl, len_ins _ hp1, T.sz]
    rfl
/-! ### laid anew -/
theorem Mk.free {m : Nat} (M : Mk m) (owner : Array (Option Nat)) (h : Int) {j : Nat} (hj : j ≤ m) (hf : oAt owner j = none) :
    ∃ K, SetTable.layClean.free m owner (SetTable.turns m) (SetTable.bits h % (m + 1)) (SetTable.bits h) = some (way m h K) ∧ oAt owner (way m h K) = none ∧ ∀ c, c < K → oAt owner (way m h c) ≠ none := by
  obtain ⟨n, hn, e⟩ := M.run h j hj
  have ew : way m h (off m (SetTable.bits h % (m + 1)) (SetTable.bits h) n) = j := by
    show (nth m (runAt m _ _) (off m _ _ n)).j = j
    rw [nth_off, itL_run]
    exact e
  obtain ⟨K, k1, k2, k3⟩ := st_least (p := fun c => oAt owner (way m h c) = none) _ (by rw [ew]; exact hf)
  have ht := turns_ge m
  refine ⟨K, free_spec m owner (SetTable.turns m) n _ _ K (by omega) k1 (fun c hc => ?_) (by rw [show oAt owner _ = none from k2]; rfl), k2, k3⟩
  cases z : oAt owner (way m h c) with
  | none => exact absurd z (k3 c hc)
  | some _ => rfl
theorem own_step {m : Nat} (M : Mk m) {done : List Int} {owner : Array (Option Nat)} (W : Own m done owner) (hl : done.length ≤ m) (h : Int) :
    ∃ j, SetTable.layClean.free m owner (SetTable.turns m) (SetTable.bits h % (m + 1)) (SetTable.bits h) = some j ∧ Own m (done ++ [h]) (owner.setIfInBounds j (some done.length)) := by
  obtain ⟨ps, hps, hin⟩ := W.ps
  obtain ⟨j0, h0, hn0⟩ := st_missing ps (m + 1) (by omega)
  have hj0 : oAt owner j0 = none := Classical.byContradiction fun z => hn0 (hin j0 (Nat.le_of_lt_succ h0) z)
  obtain ⟨K, e1, e2, e3⟩ := M.free owner h (Nat.le_of_lt_succ h0) hj0
  have hjs : way m h K < owner.size := by rw [W.sz]; exact Nat.lt_succ_of_le (way_in m h K)
  have hself := oAt_set_self (some done.length) hjs
  have other : ∀ {i : Nat}, i ≠ way m h K → oAt (owner.setIfInBounds (way m h K) (some done.length)) i = oAt owner i := fun hi => oAt_set_ne _ hi
  have mono : ∀ {i : Nat}, oAt owner i ≠ none → oAt (owner.setIfInBounds (way m h K) (some done.length)) i ≠ none := fun {i} hi => by
    rw [other (fun c => hi (by rw [c]; exact e2))]
    exact hi
  refine ⟨way m h K, e1, by rw [Array.size_setIfInBounds]; exact W.sz, fun j k hj e => ?_, fun k hk => ?_, way m h K :: ps, by simp [hps], fun j hj e => ?_⟩
  · by_cases c : j = way m h K
    · subst c
      rw [hself] at e
      cases e
      exact ⟨h, K, by simp, rfl, fun c hc => mono (e3 c hc)⟩
    · rw [other c] at e
      obtain ⟨h', K', a1, a2, a3⟩ := W.at_ j k hj e
      exact ⟨h', K', by rw [List.getElem?_append_left (List.getElem?_eq_some_iff.mp a1).1]; exact a1, a2, fun c hc => mono (a3 c hc)⟩
  · rcases Nat.lt_or_ge k done.length with c | c
    · obtain ⟨j, hj, e⟩ := W.all k c
      exact ⟨j, hj, by rw [other (fun z => by rw [z, e2] at e; cases e)]; exact e⟩
    · have ek : k = done.length := by simp at hk; omega
      exact ⟨way m h K, way_in m h K, by rw [ek]; exact hself⟩
  · by_cases c : j = way m h K
    · rw [c]; exact List.mem_cons_self
    · rw [other c] at e
      exact List.mem_cons_of_mem _ (hin j hj e)
theorem fold_own {m : Nat} (M : Mk m) : ∀ (rest done : List Int) (owner : Array (Option Nat)), Own m done owner → done.length + rest.length ≤ m →
    ∃ o2, rest.foldl (stepF m) (some (owner, done.length)) = some (o2, (done ++ rest).length) ∧ Own m (done ++ rest) o2
  | [], done, owner, W, _ => ⟨owner, by simp, by simpa using W⟩
  | h :: rest, done, owner, W, hl => by
    simp only [List.length_cons] at hl
    obtain ⟨j, e, W1⟩ := own_step M W (by omega) h
    have hl1 : (done ++ [h]).length = done.length + 1 := by simp
    obtain ⟨o2, f, W2⟩ := fold_own M rest (done ++ [h]) _ W1 (by omega)
    rw [hl1, List.append_assoc] at f
    rw [List.append_assoc] at W2
    exact ⟨o2, by rw [List.foldl_cons, stepF_some e]; exact f, W2⟩
theorem relay_tb (t : SetTable) {hs : Array Int} {wanted M : Nat} (hw : SetTable.sizeAbove wanted - 1 = M) (hM : Mk M) (hn : hs.size ≤ M) :
    ∃ t2 order, t.relaid hs wanted = some (t2, order) ∧ order.toList.Perm (List.range hs.size) ∧ Tb t2 (order.toList.map fun i => hs.getD i 0) ∧ t2.mask = M := by
  obtain ⟨owner, f, W⟩ := fold_own hM hs.toList [] _ (Own.init M) (by simpa using hn)
  rw [List.nil_append] at f W
  have el : SetTable.layClean M hs = some owner := by
    rw [layClean_eq, show hs.toList.foldl (stepF M) (some (Array.replicate (M + 1) none, 0)) = _ from f]
    rfl
  have er : t.relaid hs wanted = some (tabOf t M owner, ((liveOf M owner).map (·.2)).toArray) := by rw [relaid_eq, hw, el]; rfl
  obtain ⟨r1, r2⟩ : Ris ((liveOf M owner).map (·.1)) ∧ ∀ x ∈ (liveOf M owner).map (·.1), x ∈ List.range (M + 1) := ris_live (fun j => owner.getD j none) (List.range (M + 1)) (by unfold Ris; first | exact List.pairwise_lt_range | exact List.pairwise_lt_range _)
  have one : ∀ {j k : Nat}, (j, k) ∈ liveOf M owner ↔ j ≤ M ∧ oAt owner j = some k := mem_live W.sz
  have hlen : (liveOf M owner).length = hs.size := by
    obtain ⟨ps, p1, p2⟩ := W.ps
    have nd : ((liveOf M owner).map (·.1)).Nodup := List.Pairwise.imp (fun h => Nat.ne_of_lt h) r1
    have a := nat_nodup_len ((liveOf M owner).map (·.1)) ps nd fun x hx => by
      obtain ⟨⟨y, k⟩, hq, rfl⟩ := List.mem_map.mp hx
      obtain ⟨b1, b2⟩ := one.1 hq
      exact p2 y b1 (by rw [b2]; exact nofun)
    have b := nat_nodup_len (List.range hs.size) ((liveOf M owner).map (·.2)) List.nodup_range fun k hk => by
      obtain ⟨j, b1, b2⟩ := W.all k (by simpa using hk)
      exact List.mem_map.mpr ⟨(j, k), one.2 ⟨b1, b2⟩, rfl⟩
    simp only [List.length_map, List.length_range, p1, Array.length_toList] at a b
    omega
  refine ⟨tabOf t M owner, _, er, ?_, ⟨r1, rfl, ?_, hM, fun x hx => Nat.le_of_lt_succ (List.mem_range.mp (r2 x hx)), fun i h j h1 h2 => ?_⟩, rfl⟩
  · refine perm_range hs.size _ (by show ((liveOf M owner).map (·.2)).length = _; rw [List.length_map, hlen]) fun k hk => ?_
    obtain ⟨j, b1, b2⟩ := W.all k (by simpa using hk)
    exact List.mem_map.mpr ⟨(j, k), one.2 ⟨b1, b2⟩, rfl⟩
  · show ((liveOf M owner).map (·.1)).length = (((liveOf M owner).map (·.2)).map _).length
    simp only [List.length_map]
  · have h1' : (((liveOf M owner).map (·.2)).map fun i => hs.getD i 0)[i]? = some h := h1
    have h2' : ((liveOf M owner).map (·.1))[i]? = some j := h2
    rw [List.getElem?_map, List.getElem?_map] at h1'
    rw [List.getElem?_map] at h2'
    cases hq : (liveOf M owner)[i]? with
    | none => rw [hq] at h2'; cases h2'
    | some q =>
      obtain ⟨y, k⟩ := q
      rw [hq] at h1' h2'
      obtain rfl : y = j := Option.some.inj h2'
      have eh : hs.getD k 0 = h := Option.some.inj h1'
      obtain ⟨b1, b2⟩ := one.1 (List.mem_of_getElem? hq)
      obtain ⟨h0, K, a1, a2, a3⟩ := W.at_ y k b1 b2
      have e0 : hs.getD k 0 = h0 := by rw [Array.getD_eq_getD_getElem?, ← Array.getElem?_toList, a1]; rfl
      obtain rfl : h0 = h := e0.symm.trans eh
      refine ⟨K, a2, fun c hc => ?_⟩
      cases z : oAt owner (way M h0 c) with
      | none => exact absurd z (a3 c hc)
      | some k2 => exact List.mem_map.mpr ⟨(way M h0 c, k2), one.2 ⟨way_in M h0 c, z⟩, rfl⟩
theorem size20 : SetTable.sizeAbove (SetTable.grown 5) = 32 := by decide +kernel
theorem size76 : SetTable.sizeAbove (SetTable.grown 19) = 128 := by decide +kernel
theorem size308 : SetTable.sizeAbove (SetTable.grown 77) = 512 := by decide +kernel
end Sn
set_option Elab.async false
set_option linter.all false
set_option maxRecDepth 100000
set_option maxHeartbeats 2000000
namespace Sn
open PySem PySem.Spec PyProof.Rows L2
section
variable {P : Program} {w : World}
/-! ### what a search asks of a key -/
/-- of no class statement, n levels down -/
def NoCls (P : Program) (w : World) (n : Nat) (s : Shared) (v : Value) : Prop := ∀ (A : Around) (E : Value → Shared → Prop) (Q : Bool → Shared → Prop), Q false s → wpAny (model P w) A (ofAClassStatement n v) Q E s
theorem NoCls.tuple {n : Nat} {s : Shared} {a : Addr} {o : Obj} {vs : Array Value} {m : Nat} (ho : s.heap.get? a = some o) (hc : o.cls = .type "tuple") (hd : o.data = .seq vs m) (hq : ∀ v ∈ vs.toList, NoCls P w n s v) : NoCls P w (n + 1) s (.ref a) := fun A E Q h => by
  have hT : s.TypeIs (.ref a) "tuple" := ⟨o, ho, hc⟩
  unfold ofAClassStatement
  refine wpAny_bind (wpAny_typeOf hT ?_)
  dsimp only
  have e : (("tuple" : String) == "tuple") = true := by decide
  simp only [e, if_true, Bool.not_true, Bool.false_eq_true, if_false]
  try refine wpAny_bind (wpAny_pure ?_)
  try simp only [Bool.not_true, Bool.false_eq_true, if_false]
  show wpAny _ _ (seqItems? (.ref a) >>= _) _ _ s
  refine wpAny_bind (wpAny_seqItems ho hd ?_)
  dsimp only
  refine wpAny_bind ?_
  show wpAny _ _ (forIn vs _ _) _ _ s
  rw [← Array.forIn_toList]
  refine wpAny_forIn_list _ (fun rest r z => r.1 = none ∧ z = s ∧ ∀ v ∈ rest, NoCls P w n s v) _ ?_ ?_ _ _ ⟨rfl, rfl, hq⟩
  · rintro v rest r z ⟨hr, rfl, hall⟩
    refine wpAny_bind (hall v List.mem_cons_self _ _ _ ?_)
    simp only [Bool.false_eq_true, if_false]
    exact wpAny_pure ⟨rfl, rfl, fun u hu => hall u (List.mem_cons_of_mem _ hu)⟩
  · rintro ⟨r1, r2⟩ z ⟨hr, rfl, _⟩
    obtain rfl : r1 = none := hr
    exact wpAny_pure h
/-- its hash is by value or not: either answer, nothing done -/
def SomeB (P : Program) (w : World) (n : Nat) (s : Shared) (v : Value) : Prop := ∀ (A : Around) (E : Value → Shared → Prop) (Q : Bool → Shared → Prop), (∀ b, Q b s) → wpAny (model P w) A (hashByValue n v) Q E s
theorem SomeB.tuple {n : Nat} {s : Shared} {a : Addr} {o : Obj} {vs : Array Value} {m : Nat} (ho : s.heap.get? a = some o) (hc : o.cls = .type "tuple") (hd : o.data = .seq vs m) (hq : ∀ v ∈ vs.toList, SomeB P w n s v) : SomeB P w (n + 1) s (.ref a) := fun A E Q h => by
  have hT : s.TypeIs (.ref a) "tuple" := ⟨o, ho, hc⟩
  unfold hashByValue
  refine wpAny_bind (wpAny_specialOf hT F.slot_tuple_hash.lookup ?_)
  show wpAny _ _ (seqItems? (.ref a) >>= _) _ _ s
  refine wpAny_bind (wpAny_seqItems ho hd ?_)
  refine wpAny_bind ?_
  show wpAny _ _ (forIn vs _ _) _ _ s
  rw [← Array.forIn_toList]
  refine wpAny_forIn_list _ (fun rest r z => r.1 = none ∧ z = s ∧ ∀ v ∈ rest, SomeB P w n s v) _ ?_ ?_ _ _ ⟨rfl, rfl, hq⟩
  · rintro v rest r z ⟨hr, rfl, hall⟩
    refine wpAny_bind (hall v List.mem_cons_self _ _ _ fun b => ?_)
    cases b with
    | true =>
      simp only [Bool.not_true, Bool.false_eq_true, if_false]
      exact wpAny_pure ⟨rfl, rfl, fun u hu => hall u (List.mem_cons_of_mem _ hu)⟩
    | false =>
      simp only [Bool.not_false, if_true]
      exact wpAny_pure (wpAny_pure (h _))
  · rintro ⟨r1, r2⟩ z ⟨hr, rfl, _⟩
    obtain rfl : r1 = none := hr
    exact wpAny_pure (h _)
mutual
theorem nocls_key : ∀ (k : NestedKey) (v : Value) (n : Nat) (s : Shared), NestedIs s.heap k v → k.depth ≤ n → NoCls P w n s v
  | .none, _, n, s, x, _ => by cases x; exact fun A E Q h => by cases n <;> exact wpAny_pure h
  | .num i, _, n, s, x, _ => by cases x <;> exact fun A E Q h => by cases n <;> exact wpAny_pure h
  | .text y, _, n, s, x, _ => by cases x; exact fun A E Q h => by cases n <;> exact wpAny_pure h
  | .tup ks, _, n, s, x, hn => by
    cases x with
    | tup hg hc hd hk =>
      simp only [NestedKey.depth] at hn
      cases n with
      | zero => omega
      | succ n => exact .tuple hg hc hd (nocls_keys ks _ n s hk (by omega))
theorem nocls_keys : ∀ (ks : List NestedKey) (vs : List Value) (n : Nat) (s : Shared), NestedAll s.heap ks vs → NestedKey.depthAll ks ≤ n → ∀ v ∈ vs, NoCls P w n s v
  | [], _, n, s, x, _, v, hv => by cases x; cases hv
  | k :: ks, _, n, s, x, hn, v, hv => by
    cases x with
    | cons x1 x2 =>
      simp only [NestedKey.depthAll] at hn
      rcases List.mem_cons.mp hv with e | hv
      · exact e ▸ nocls_key k _ n s x1 (by omega)
      · exact nocls_keys ks _ n s x2 (by omega) v hv
end
mutual
theorem someB_key : ∀ (k : NestedKey) (v : Value) (n : Nat) (s : Shared), NestedIs s.heap k v → k.depth ≤ n → SomeB P w n s v
  | .none, _, n, s, x, _ => by cases x; exact fun A E Q h => by cases n <;> exact wpAny_pure (h _)
  | .num i, _, n, s, x, _ => by cases x <;> exact fun A E Q h => by cases n <;> exact wpAny_pure (h _)
  | .text y, _, n, s, x, _ => by cases x; exact fun A E Q h => by cases n <;> exact wpAny_pure (h _)
  | .tup ks, _, n, s, x, hn => by
    cases x with
    | tup hg hc hd hk =>
      simp only [NestedKey.depth] at hn
      cases n with
      | zero => omega
      | succ n => exact .tuple hg hc hd (someB_keys ks _ n s hk (by omega))
theorem someB_keys : ∀ (ks : List NestedKey) (vs : List Value) (n : Nat) (s : Shared), NestedAll s.heap ks vs → NestedKey.depthAll ks ≤ n → ∀ v ∈ vs, SomeB P w n s v
  | [], _, n, s, x, _, v, hv => by cases x; cases hv
  | k :: ks, _, n, s, x, hn, v, hv => by
    cases x with
    | cons x1 x2 =>
      simp only [NestedKey.depthAll] at hn
      rcases List.mem_cons.mp hv with e | hv
      · exact e ▸ someB_key k _ n s x1 (by omega)
      · exact someB_keys ks _ n s x2 (by omega) v hv
end
end
/-! ### sets of keys -/
abbrev Kd (P : Program) (w : World) : HeapKind P w NestedKey := nestedKind P w
abbrev kh (w : World) (k : NestedKey) : Int := k.hash w
abbrev IsK (P : Program) (w : World) (h : Heap) (k : NestedKey) (a : Addr) : Prop := (Kd P w).is h k a
section
variable {P : Program} {w : World} {A : Around} {E : Value → Shared → Prop} {s : Shared}
theorem seen_no {k : NestedKey} {b : Addr} {Q : Bool → Shared → Prop} (hk : IsK P w s.heap k b) {ys : List Value} (hy : ∀ y ∈ ys, ∃ k' c, y = Value.ref c ∧ IsK P w s.heap k' c) (h : Q false s) :
    wpAny (model P w) A (searchCouldBeSeen (.ref b) ys) Q E s := by
  unfold searchCouldBeSeen
  refine wpAny_bind ?_
  refine wpAny_forIn_list _ (fun rest r z => r.1 = none ∧ z = s ∧ ∀ y ∈ rest, ∃ k' c, y = Value.ref c ∧ IsK P w s.heap k' c) _ ?_ ?_ _ _ ⟨rfl, rfl, hy⟩
  · rintro v rest r z ⟨hr, rfl, hall⟩
    obtain ⟨k', c, rfl, hc⟩ := hall v List.mem_cons_self
    have more : ∀ y ∈ rest, ∃ k' c, y = Value.ref c ∧ IsK P w z.heap k' c := fun u hu => hall u (List.mem_cons_of_mem _ hu)
    dsimp only
    by_cases hv : (b == c || (carriedByValue (.ref b) && carriedByValue (.ref c))) = true
    · exact wp_if_pos hv (wpAny_pure ⟨rfl, rfl, more⟩)
    · refine wp_if_neg hv (wpAny_bind ((Kd P w).quiet hk ?_))
      simp only [Bool.not_true, Bool.false_eq_true, if_false]
      refine wpAny_bind ((Kd P w).quiet hc ?_)
      simp only [Bool.not_true, Bool.false_eq_true, if_false]
      refine wpAny_bind (nocls_key k _ 8 z hk.1 hk.2 _ _ _ ?_)
      simp only [Bool.false_eq_true, if_false]
      refine wpAny_bind (nocls_key k' _ 8 z hc.1 hc.2 _ _ _ ?_)
      simp only [Bool.false_eq_true, if_false]
      exact wpAny_pure ⟨rfl, rfl, more⟩
  · rintro ⟨r1, r2⟩ z ⟨hr, rfl, _⟩
    obtain rfl : r1 = none := hr
    exact wpAny_pure h
def rowsK (w : World) (L : List (Addr × NestedKey)) : List (Int × Value) := L.map fun p => (kh w p.2, Value.ref p.1)
/-- a set of keys at a, as it lies -/
structure St (P : Program) (w : World) (h : Heap) (a : Addr) (L : List (Addr × NestedKey)) (es : Array (Int × Value)) (ep : Nat) (t : SetTable) : Prop where
  ob : ∃ o, h.get? a = some o ∧ o.ExactSet ∧ o.data = .set es ep t
  rows : es.toList = rowsK w L
  tab : Tb t (L.map fun p => kh w p.2)
  nd : (L.map (·.2)).Nodup
  key : ∀ p ∈ L, IsK P w h p.2 p.1
  room : L.length * 5 < t.mask * 3
  msk : t.mask = 7 ∨ t.mask = 31 ∨ t.mask = 127 ∨ t.mask = 511
theorem rows_len {w : World} {L : List (Addr × NestedKey)} {es : Array (Int × Value)} (h : es.toList = rowsK w L) : es.size = L.length := by
  rw [← Array.length_toList, h]
  exact List.length_map ..
theorem rows_at {w : World} {L : List (Addr × NestedKey)} {es : Array (Int × Value)} (h : es.toList = rowsK w L) {i : Nat} {p : Addr × NestedKey} (e : L[i]? = some p) : es[i]? = some (kh w p.2, Value.ref p.1) := by
  rw [← Array.getElem?_toList, h, rowsK, List.getElem?_map, e]
  rfl
variable {a : Addr} {L : List (Addr × NestedKey)} {es : Array (Int × Value)} {ep : Nat} {t : SetTable}
theorem Tb.fits {t : SetTable} {hs : List Int} (T : Tb t hs) {n : Nat} (hn : hs.length = n) (hm : n ≤ t.mask) : t.fits n = true := by
  have h1 := T.sz
  rw [Array.length_toList] at h1
  unfold SetTable.fits SetTable.fill
  rw [T.dm, Bool.and_eq_true, beq_iff_eq, decide_eq_true_eq]
  exact ⟨by omega, by show t.place.size + 0 ≤ t.mask; omega⟩
theorem St.fits {h : Heap} (R : St P w h a L es ep t) : t.fits es.size = true := by
  have h3 := R.room
  have h2 := rows_len R.rows
  exact R.tab.fits (by rw [List.length_map, h2]) (by omega)
theorem St.gw {h : Heap} (R : St P w h a L es ep t) : ¬ t.gaveWay = true := by
  unfold SetTable.gaveWay
  rw [R.tab.mok.odd]
  decide
/-- the step c of k's way -/
abbrev stp (t : SetTable) (w : World) (k : NestedKey) (c : Nat) : SetTable.Probe := nth t.mask (runAt t.mask (SetTable.bits (kh w k) % (t.mask + 1)) (SetTable.bits (kh w k))) c
theorem stp_dummy (t : SetTable) (w : World) (k : NestedKey) (c : Nat) : (stp t w k c).dummy = none := by
  have go : ∀ (n : Nat) (p : SetTable.Probe), p.dummy = none → (nth t.mask p n).dummy = none := by
    intro n
    induction n with
    | zero => exact fun p h => h
    | succ n ih =>
      intro p h
      refine ih (adv t.mask p) ?_
      unfold adv
      split <;> exact h
  exact go c _ rfl
/-- the search, from the step c on -/
theorem search_on (R : St P w s.heap a L es ep t) {x : Addr} {k : NestedKey} (hx : IsK P w s.heap k x) (hu : (Kd P w).room A) {K : Nat} (hKf : K < 10 * SetTable.turns t.mask)
    (hK : way t.mask (kh w k) K ∉ t.place.toList) (hKb : ∀ c, c < K → way t.mask (kh w k) c ∈ t.place.toList) {Q : SetFound → Shared → Prop}
    (hin : k ∈ L.map (·.2) → Q (.there none) s) (hout : k ∉ L.map (·.2) → Q (.free (way t.mask (kh w k) K) false) s) :
    ∀ (f c : Nat) (stand : Option SetTable.Probe), stand.getD (t.probeStart (kh w k)) = stp t w k c → c ≤ K → K - c < f →
      (∀ (i : Nat) p, L[i]? = some p → p.2 = k → ∃ d, c ≤ d ∧ d < K ∧ t.place.toList[i]? = some (way t.mask (kh w k) d)) →
      wpAny (model P w) A (setSearchFrom a (.ref x) (kh w k) true f stand) Q E s
  | 0, c, stand, _, _, hf, _ => absurd hf (Nat.not_lt_zero _)
  | f + 1, c, stand, hst, hc, hf, hre => by
    obtain ⟨o, ho, hex, hd⟩ := R.ob
    rw [setSearchFrom_succ]
    refine wpAny_bind (wpAny_setState_of ho hd R.fits ?_)
    dsimp only
    refine wp_if_neg R.gw ?_
    try refine wpAny_bind (wpAny_pure ?_)
    have sh : ∀ q, nth t.mask (stp t w k c) q = stp t w k (c + q) := fun q => (nth_add t.mask c _ q).symm
    have e1 : ∀ q, (nth t.mask (stp t w k c) q).j = way t.mask (kh w k) (c + q) := fun q => congrArg SetTable.Probe.j (sh q)
    have eK : c + (K - c) = K := by omega
    have spec := go_spec t R.tab.ris R.tab.dm (fun i => (es[i]?.map (·.1)).getD 0) (kh w k) (10 * SetTable.turns t.mask) (K - c) _ (stp_dummy t w k c) (by omega)
      (fun q hq => by rw [e1]; exact hKb (c + q) (by omega)) (by rw [e1, eK]; exact hK)
    have hashAt : ∀ (i : Nat) p, L[i]? = some p → (fun i => (es[i]?.map (·.1)).getD 0) i = kh w p.2 := fun i p hp => by
      show (es[i]?.map (·.1)).getD 0 = _
      rw [rows_at R.rows hp]
      rfl
    rcases spec with ⟨q, i, hq, hi, hh, hno, hpr⟩ | ⟨hno, hpr⟩
    · have pr : t.probe (fun i => (es[i]?.map (·.1)).getD 0) (kh w k) (stp t w k c) = _ := hpr
      rw [hst, pr]
      dsimp only
      rw [e1] at hi
      rw [e1, sh]
      have hil : i < L.length := by
        have h1 := (List.getElem?_eq_some_iff.mp hi).1
        have h2 := R.tab.sz
        rw [List.length_map] at h2
        omega
      obtain ⟨p, hp⟩ : ∃ p, L[i]? = some p := ⟨_, List.getElem?_eq_getElem hil⟩
      have hmem := List.mem_of_getElem? hp
      have more : wpAny (model P w) A (searchRest a (.ref x) (kh w k) true f es t (way t.mask (kh w k) (c + q)) i (stp t w k (c + (q + 1)))) Q E s := by
        unfold searchRest
        rw [rows_at R.rows hp]
        dsimp only
        refine wpAny_bind (wpAny_holding ((Kd P w).eqBool hu (R.key p hmem) hx ?_))
        refine wpAny_bind (wpAny_setState_of ho hd R.fits ?_)
        dsimp only
        by_cases hkk : p.2 = k
        · exact wp_if_pos (by simp [hkk]) (wpAny_pure (hin (List.mem_map.mpr ⟨p, hmem, hkk⟩)))
        · refine wp_if_neg (by simp [hkk]) ?_
          try refine wpAny_bind (wpAny_pure ?_)
          rw [sameMem]
          dsimp only
          have hsl : t.slot (way t.mask (kh w k) (c + q)) = .live i := slot_live R.tab.ris hi
          simp only [if_true, hsl, rows_at R.rows hp]
          refine wpAny_bind (wpAny_isSame_ref_self (wpAny_bind (wpAny_pure ?_)))
          simp only [if_true]
          refine wp_if_neg (by simp [hkk]) ?_
          refine search_on R hx hu hKf hK hKb hin hout f (c + (q + 1)) _ rfl (by omega) (by omega) fun i0 p0 h0 hk0 => ?_
          obtain ⟨d, a1, a2, a3⟩ := hre i0 p0 h0 hk0
          refine ⟨d, ?_, a2, a3⟩
          rcases Nat.lt_trichotomy d (c + q) with z | z | z
          · exact absurd ((hashAt i0 p0 h0).trans (congrArg (kh w) hk0)) (hno (d - c) i0 (by omega) (by rw [e1, show c + (d - c) = d by omega]; exact a3))
          · rw [z] at a3
            have s0 := slot_live R.tab.ris a3
            rw [hsl] at s0
            injection s0 with s0
            rw [← s0, hp] at h0
            exact absurd ((congrArg Prod.snd (Option.some.inj h0)).trans hk0) hkk
          · omega
      by_cases hl : t.led = true
      · refine wp_if_neg (by simp [hl]) ?_
        try refine wpAny_bind (wpAny_pure ?_)
        exact more
      · refine wp_if_pos (by simp [hl]) (wpAny_bind (seen_no hx (fun y hy => ?_) ?_))
        · obtain ⟨e, he, ee⟩ := List.mem_map.mp hy
          have he1 : e ∈ es ∧ e.1 = kh w k := by simpa using he
          have he2 : e ∈ es.toList := by simpa using he1.1
          rw [R.rows] at he2
          obtain ⟨p2, hp2, e2⟩ := List.mem_map.mp he2
          exact ⟨p2.2, p2.1, by rw [← ee, ← e2], R.key p2 hp2⟩
        · refine wp_if_neg (by decide) ?_
          try refine wpAny_bind (wpAny_pure ?_)
          exact more
    · have pr : t.probe (fun i => (es[i]?.map (·.1)).getD 0) (kh w k) (stp t w k c) = _ := hpr
      rw [hst, pr]
      dsimp only
      rw [e1, eK]
      refine wpAny_pure (hout fun hm => ?_)
      obtain ⟨p0, h0, hk0⟩ := List.mem_map.mp hm
      obtain ⟨i0, hi0, e0⟩ := List.getElem_of_mem h0
      have h00 : L[i0]? = some p0 := by rw [List.getElem?_eq_getElem hi0, e0]
      obtain ⟨d, a1, a2, a3⟩ := hre i0 p0 h00 hk0
      exact hno (d - c) i0 (by omega) (by rw [e1, show c + (d - c) = d by omega]; exact a3) ((hashAt i0 p0 h00).trans (congrArg (kh w) hk0))
end
end Sn
set_option Elab.async false
set_option linter.all false
set_option maxRecDepth 100000
set_option maxHeartbeats 2000000
namespace Sn
open PySem PySem.Spec PyProof.Rows L2
section
variable {P : Program} {w : World} {A : Around} {E : Value → Shared → Prop} {s : Shared} {a : Addr} {L : List (Addr × NestedKey)} {es : Array (Int × Value)} {ep : Nat} {t : SetTable}
theorem search_key (R : St P w s.heap a L es ep t) {x : Addr} {k : NestedKey} (hx : IsK P w s.heap k x) (hu : (Kd P w).room A) {Q : SetFound → Shared → Prop} (hin : k ∈ L.map (·.2) → Q (.there none) s)
    (hout : ∀ K, k ∉ L.map (·.2) → way t.mask (kh w k) K ∉ t.place.toList → (∀ c, c < K → way t.mask (kh w k) c ∈ t.place.toList) → Q (.free (way t.mask (kh w k) K) false) s) :
    wpAny (model P w) A (setSearch a (.ref x) (kh w k) true) Q E s := by
  have hroom := R.room
  obtain ⟨K, hKf, hK, hKb⟩ := R.tab.first (by rw [List.length_map]; omega) (kh w k)
  have hbig : K < 100000 := by
    have hm := R.tab.mok.le
    have : 10 * SetTable.turns t.mask ≤ 50000 := by unfold SetTable.turns; omega
    omega
  unfold setSearch
  refine search_on R hx hu hKf hK hKb hin (fun hn => hout K hn hK hKb) 100000 0 none rfl (Nat.zero_le _) (by omega) fun i p hp hk => ?_
  have hi : (L.map fun p => kh w p.2)[i]? = some (kh w k) := by rw [List.getElem?_map, hp, ← hk]; rfl
  have hil : i < t.place.toList.length := by
    rw [R.tab.sz, List.length_map]
    exact (List.getElem?_eq_some_iff.mp hp).1
  have hj := List.getElem?_eq_getElem hil
  obtain ⟨c, hc, e⟩ := R.tab.before hK hi hj
  exact ⟨c, Nat.zero_le _, hc, by rw [hj, e]⟩
/-- a key isn't the set -/
theorem isK_but {h h' : Heap} {k : NestedKey} {b : Addr} {o : Obj} (hb : IsK P w h k b) (ho : h.get? a = some o) (hd : o.data = .set es ep t) (hs : Heap.SameBut a h h') : IsK P w h' k b :=
  nestedKind_stays.stays (fun c u vs n e q => (hs.2 c (fun z => by
    rw [z, ho] at e
    cases e
    rw [hd] at q
    cases q)).trans e) hb
theorem rowsK_put (L : List (Addr × NestedKey)) (p : Nat) (x : Addr) (k : NestedKey) : rowsK w (L.take p ++ (x, k) :: L.drop p) = (rowsK w L).take p ++ (kh w k, Value.ref x) :: (rowsK w L).drop p := by
  simp only [rowsK, List.map_append, List.map_cons, List.map_take, List.map_drop]
theorem put_perm' {α : Type} (L : List α) (p : Nat) (x : α) : (L.take p ++ x :: L.drop p).Perm (x :: L) := by
  have h : (L.take p ++ x :: L.drop p).Perm (x :: (L.take p ++ L.drop p)) := List.perm_middle
  rwa [List.take_append_drop] at h
theorem take_fm {α : Type} (L : List α) : ∀ n, n ≤ L.length → (List.range n).filterMap (fun i => L[i]?) = L.take n
  | 0, _ => by simp
  | n + 1, h => by
    rw [List.range_succ, List.filterMap_append, take_fm L n (Nat.le_of_lt h), List.take_succ, List.getElem?_eq_getElem h]
    simp [List.getElem?_eq_getElem h]
/-- the rows in another order -/
theorem rows_order {L : List (Addr × NestedKey)} {es : Array (Int × Value)} {order : Array Nat} (hr : es.toList = rowsK w L) (hp : order.toList.Perm (List.range L.length)) :
    ∃ L2, (order.filterMap (es[·]?)).toList = rowsK w L2 ∧ L2.Perm L ∧ (L2.map fun p => kh w p.2) = order.toList.map fun i => (es.map (·.1)).getD i 0 := by
  have hsz := rows_len hr
  have go : ∀ l : List Nat, (∀ i ∈ l, i < L.length) → l.filterMap (fun i => es[i]?) = rowsK w (l.filterMap (fun i => L[i]?)) ∧ ((l.filterMap (fun i => L[i]?)).map fun p => kh w p.2) = l.map fun i => (es.map (·.1)).getD i 0 := by
    intro l
    induction l with
    | nil => exact fun _ => ⟨rfl, rfl⟩
    | cons i l ih =>
      intro hl
      obtain ⟨e1, e2⟩ := ih fun j hj => hl j (List.mem_cons_of_mem _ hj)
      have hi := List.getElem?_eq_getElem (hl i List.mem_cons_self)
      have he := rows_at hr hi
      rw [List.filterMap_cons_some he, List.filterMap_cons_some hi, List.map_cons, List.map_cons, e1, e2]
      refine ⟨rfl, ?_⟩
      have e5 : (es.map (·.1))[i]? = some (kh w (L[i]'(hl i List.mem_cons_self)).2) := by rw [Array.getElem?_map, he]; rfl
      rw [show (es.map (·.1)).getD i 0 = kh w (L[i]'(hl i List.mem_cons_self)).2 by simp [Array.getD_eq_getD_getElem?, e5]]
  obtain ⟨e1, e2⟩ := go order.toList fun i hi => List.mem_range.mp (hp.mem_iff.mp hi)
  refine ⟨_, by first | (rw [Array.toList_filterMap]; exact e1) | simpa using e1, ?_, e2⟩
  have h1 := hp.filterMap (fun i => L[i]?)
  rwa [take_fm L _ (Nat.le_refl _), List.take_length] at h1
/-- the table laid anew -/
theorem relay_key {o : Obj} (ho : s.heap.get? a = some o) (hex : o.ExactSet) (hd : o.data = .set es ep t) (hrows : es.toList = rowsK w L) (T : Tb t (L.map fun p => kh w p.2)) (hfl : L.length ≤ t.mask)
    (nd : (L.map (·.2)).Nodup) (key : ∀ p ∈ L, IsK P w s.heap p.2 p.1) {wanted M : Nat} (hw : SetTable.sizeAbove wanted = M + 1) (hM : Mk M) (hm4 : M = 7 ∨ M = 31 ∨ M = 127 ∨ M = 511) (hn : L.length * 5 < M * 3) {Q : Unit → Shared → Prop}
    (hQ : ∀ h' L' es' ep' t', Heap.SameBut a s.heap h' → St P w h' a L' es' ep' t' → L'.Perm L → Q () { s with heap := h' }) : wpAny (model P w) A (setRelay a wanted) Q E s := by
  have hsl := rows_len hrows
  have hMle := hM.le
  obtain ⟨t2, order, e, hp, T2, em⟩ := relay_tb t (hs := es.map (·.1)) (wanted := wanted) (M := M) (by rw [hw]; rfl) hM (by rw [Array.size_map, hsl]; omega)
  rw [Array.size_map, hsl] at hp
  obtain ⟨L2, r1, r2, r3⟩ := rows_order hrows hp
  rw [← r3] at T2
  have hs2 : (order.filterMap (es[·]?)).size = es.size := by rw [rows_len r1, r2.length_eq, hsl]
  rw [setRelay_eq]
  refine wpAny_bind (wpAny_setState_of ho hd (by rw [hsl]; exact T.fits (by simp) hfl) ?_)
  dsimp only
  refine wp_if_neg (by rw [hw, sizeLine_eq]; omega) ?_
  try refine wpAny_bind (wpAny_pure ?_)
  rw [e]
  dsimp only
  refine wpAny_bind (wp_if_neg (by rw [hs2]; simp) ?_)
  try refine wpAny_bind (wpAny_pure ?_)
  refine wpAny_pure ?_
  dsimp only
  refine wpAny_storeSet_of ho hd ?_ (by rw [hs2, hsl, sizeLine_eq]; omega)
  have sb : Heap.SameBut a s.heap (s.heap.update a (Obj.putSet (order.filterMap (es[·]?)) t2)) := Heap.SameBut.update ..
  exact hQ _ L2 _ (ep + 1) t2 sb ⟨⟨_, store_at ho hd, ⟨hex.1, hex.2.1, hex.2.2⟩, rfl⟩, r1, T2, (r2.map (·.2)).nodup_iff.mpr nd, fun p hpm => isK_but (key p (r2.mem_iff.mp hpm)) ho hd sb, by rw [r2.length_eq, em]; exact hn, by rw [em]; exact hm4⟩ r2
/-- stored, and laid anew where it is too full -/
theorem add_tail {o : Obj} (ho : s.heap.get? a = some o) (hex : o.ExactSet) (hd : o.data = .set es ep t) {es1 : Array (Int × Value)} {t1 : SetTable} {L1 : List (Addr × NestedKey)} {n : Nat} (hrows : es1.toList = rowsK w L1) (T : Tb t1 (L1.map fun p => kh w p.2))
    (hmk : t1.mask = 7 ∨ t1.mask = 31 ∨ t1.mask = 127 ∨ t1.mask = 511) (hfl : t1.fill = n + 1) (hl : L1.length = n + 1) (hroom : n * 5 < t1.mask * 3) (hfew : n < 300) (nd : (L1.map (·.2)).Nodup)
    (key : ∀ h', Heap.SameBut a s.heap h' → ∀ p ∈ L1, IsK P w h' p.2 p.1) {Q : Bool → Shared → Prop}
    (hQ : ∀ h' L' es' ep' t', Heap.SameBut a s.heap h' → St P w h' a L' es' ep' t' → L'.Perm L1 → Q true { s with heap := h' }) :
    wpAny (model P w) A (do
      storeSet a es1 t1
      if (!false && t1.tooFull) = true then do
        setRelay a (SetTable.grown (n + 1))
        pure true
      else pure true) Q E s := by
  have hes := rows_len hrows
  refine wpAny_bind (wpAny_storeSet_of ho hd ?_ (by rw [hes, hl, sizeLine_eq]; omega))
  have sb : Heap.SameBut a s.heap (s.heap.update a (Obj.putSet es1 t1)) := Heap.SameBut.update ..
  have ho1 := store_at (es' := es1) (t' := t1) ho hd
  generalize s.heap.update a (Obj.putSet es1 t1) = h1 at sb ho1 ⊢
  by_cases hf : t1.tooFull = true
  · refine wp_if_pos (by simp [hf]) ?_
    have hfull : (n + 1) * 5 ≥ t1.mask * 3 := by
      have h := hf
      unfold SetTable.tooFull at h
      rw [decide_eq_true_eq, hfl] at h
      exact h
    obtain ⟨M, hw, hM, hm4, hn⟩ : ∃ M, SetTable.sizeAbove (SetTable.grown (n + 1)) = M + 1 ∧ Mk M ∧ (M = 7 ∨ M = 31 ∨ M = 127 ∨ M = 511) ∧ (n + 1) * 5 < M * 3 := by
      rcases hmk with e | e | e | e
      · obtain rfl : n = 4 := by omega
        exact ⟨31, size20, mk_of (.inr (.inl rfl)), .inr (.inl rfl), by decide⟩
      · obtain rfl : n = 18 := by omega
        exact ⟨127, size76, mk_of (.inr (.inr rfl)), .inr (.inr (.inl rfl)), by decide⟩
      · obtain rfl : n = 76 := by omega
        exact ⟨511, size308, mk511, .inr (.inr (.inr rfl)), by decide⟩
      · omega
    refine wpAny_bind (relay_key (s := { s with heap := h1 }) ho1 ⟨hex.1, hex.2.1, hex.2.2⟩ rfl hrows T (by omega) nd (key h1 sb) hw hM hm4 (by rw [hl]; exact hn) fun h2 L2 es2 ep2 t2 sb2 R2 pm2 => ?_)
    exact wpAny_pure (hQ h2 L2 es2 ep2 t2 (sb.trans sb2) R2 pm2)
  · refine wp_if_neg (by simp [hf]) ?_
    refine wpAny_pure (hQ h1 L1 es1 (ep + 1) t1 sb ⟨⟨_, ho1, ⟨hex.1, hex.2.1, hex.2.2⟩, rfl⟩, hrows, T, nd, key h1 sb, ?_, hmk⟩ (List.Perm.refl _))
    have h := hf
    unfold SetTable.tooFull at h
    rw [decide_eq_true_eq, hfl] at h
    omega
/-- one more -/
theorem add_key (R : St P w s.heap a L es ep t) {x : Addr} {k : NestedKey} (hx : IsK P w s.heap k x) (hu : (Kd P w).room A) (hfew : L.length < 300) {Q : Bool → Shared → Prop}
    (hQ : ∀ b h' L' es' ep' t', Heap.SameBut a s.heap h' → St P w h' a L' es' ep' t' → (k ∈ L.map (·.2) → L' = L) → (k ∉ L.map (·.2) → L'.Perm ((x, k) :: L)) → Q b { s with heap := h' }) :
    wpAny (model P w) A (setAddHashed a (.ref x) (kh w k)) Q E s := by
  obtain ⟨o, ho, hex, hd⟩ := R.ob
  have hsl := rows_len R.rows
  have hroom := R.room
  unfold setAddHashed
  refine wpAny_holding ?_
  rw [show (100000 : Nat) = 99999 + 1 from rfl, setAddHashedIn_succ]
  refine wpAny_bind (wpAny_setState_of ho hd R.fits ?_)
  dsimp only
  refine wp_if_neg (by simp [byScan, Value.scannable]) ?_
  try refine wpAny_bind (wpAny_pure ?_)
  refine wpAny_bind (search_key R hx hu (fun hm => ?_) fun K hm hK hb => ?_)
  · dsimp only
    exact wpAny_pure (hQ false s.heap L es ep t (Heap.SameBut.refl a s.heap) R (fun _ => rfl) fun z => absurd hm z)
  · dsimp only
    refine wpAny_bind (wpAny_setState_of ho hd R.fits ?_)
    dsimp only
    obtain ⟨q1, q2, q3, q4⟩ := R.tab.put hK hb
    generalize hpt : t.put (way t.mask (kh w k) K) = pt at q1 q2 q3 q4 ⊢
    obtain ⟨t1, p⟩ := pt
    dsimp only at q1 q2 q3 q4 ⊢
    have pm := put_perm' L p (x, k)
    have hlen : (L.take p ++ (x, k) :: L.drop p).length = L.length + 1 := pm.length_eq
    have hrows : (SetTable.insertAt es p (kh w k, Value.ref x)).toList = rowsK w (L.take p ++ (x, k) :: L.drop p) := by rw [SetTable.toList_insertAt, rowsK_put, R.rows]
    have hmap : (L.take p ++ (x, k) :: L.drop p).map (fun p => kh w p.2) = (L.map fun p => kh w p.2).take p ++ kh w k :: (L.map fun p => kh w p.2).drop p := by simp only [List.map_append, List.map_cons, List.map_take, List.map_drop]
    rw [← hmap] at q2
    rw [List.length_map] at q4
    have nd1 : ((L.take p ++ (x, k) :: L.drop p).map (·.2)).Nodup := (pm.map (·.2)).nodup_iff.mpr (List.nodup_cons.mpr ⟨hm, R.nd⟩)
    have key1 : ∀ h', Heap.SameBut a s.heap h' → ∀ p' ∈ (L.take p ++ (x, k) :: L.drop p), IsK P w h' p'.2 p'.1 := fun h' sb p' hp => by
      rcases List.mem_cons.mp (pm.mem_iff.mp hp) with e | hp
      · rw [e]; exact isK_but hx ho hd sb
      · exact isK_but (R.key p' hp) ho hd sb
    have fin : ∀ t2 : SetTable, Tb t2 ((L.take p ++ (x, k) :: L.drop p).map fun p => kh w p.2) → t2.mask = t.mask → t2.fill = L.length + 1 → wpAny (model P w) A (do
        storeSet a (SetTable.insertAt es p (kh w k, Value.ref x)) t2
        if (!false && t2.tooFull) = true then do
          setRelay a (SetTable.grown (L.length + 1))
          pure true
        else pure true) Q E s := fun t2 T2 m2 f2 =>
      add_tail ho hex hd hrows T2 (by rw [m2]; exact R.msk) f2 hlen (by rw [m2]; exact hroom) hfew nd1 key1 fun h' L' es' ep' t' sb R' pm' => hQ true h' L' es' ep' t' sb R' (fun z => absurd z hm) fun _ => pm'.trans pm
    rw [hsl]
    by_cases hp1 : t1.plain = true
    · refine wp_if_pos hp1 (wpAny_bind (someB_key k _ 8 s hx.1 hx.2 _ _ _ fun b => ?_))
      cases b with
      | true => exact fin t1 q2 q3 q4
      | false => exact fin { t1 with plain := false } ⟨q2.ris, q2.dm, q2.sz, q2.mok, q2.bd, q2.reach⟩ q3 q4
    · refine wp_if_neg hp1 (wpAny_bind (wpAny_pure ?_))
      exact fin t1 q2 q3 q4
end
end Sn
set_option Elab.async false
set_option linter.all false
set_option maxRecDepth 100000
set_option maxHeartbeats 4000000
namespace Sn
open PySem PySem.Spec PyProof.Rows L2
/-! ### set(xs), by what one more item does -/
/-- J i: what the set at S is behind the first i items -/
structure Adder (P : Program) (w : World) (S : Addr) (items : Array Value) (h0 : Heap) (J : Nat → Heap → Prop) : Prop where
  keep : ∀ i h h', J i h → (∀ o, h.get? S = some o → h'.get? S = some o) → (∀ b o, h0.get? b = some o → h'.get? b = some o) → J i h'
  add : ∀ (A : Around) (E : Value → Shared → Prop) (s : Shared) (i : Nat) (v : Value) (Q : Bool → Shared → Prop), items[i]? = some v → A.units + 8 < cLine → J i s.heap → (∀ b o, h0.get? b = some o → s.heap.get? b = some o) →
    (∀ b h' tk, s.toks ≤ tk → Heap.SameBut S s.heap h' → J (i + 1) h' → Q b { s with heap := h', toks := tk }) → wpAny (model P w) A (setAdd S v) Q E s
section
variable {P : Program} {w : World} {A : Around} {E : Value → Shared → Prop} {s : Shared}
theorem set_loop {I : Addr} {fp wr : List Addr} {G : Array GenState → Array GenState → Prop} {St : Nat → Shared → Prop} {R : Result → Shared → Prop} {items : Array Value} {S : Addr} {h0 : Heap} {J : Nat → Heap → Prop}
    (W : WalksS P w A.in1 I fp wr G items.size (fun i v => items[i]? = some v) St) (D : Adder P w S items h0 J) (hSf : S ∉ fp) (hS0 : h0.get? S = none) (hw0 : ∀ b ∈ wr, h0.get? b = none) (hu : A.in1.units + 8 < cLine) :
    ∀ (k i : Nat) (s : Shared), items.size - i = k → i ≤ items.size → St i s → (∀ b o, h0.get? b = some o → s.heap.get? b = some o) → J i s.heap →
      (∀ s', Moved (S :: wr) G s s' → J items.size s'.heap → (∀ b o, h0.get? b = some o → s'.heap.get? b = some o) → R (.ok (.ret .none)) s') →
      codeAny (model P w) A (.builtin "set.update.loop" ⟨[.ref S, .ref I], []⟩) R s := by
  have hSw : S ∉ wr := fun h => hSf (W.sub _ h)
  have hsub : ∀ b ∈ wr, b ∈ S :: wr := fun b hb => List.mem_cons_of_mem _ hb
  have old : ∀ {s s' : Shared}, Moved wr G s s' → (∀ b o, h0.get? b = some o → s.heap.get? b = some o) → ∀ b o, h0.get? b = some o → s'.heap.get? b = some o := fun hm hkp b o e =>
    hm.heap b o (fun hb => by rw [hw0 b hb] at e; cases e) (hkp b o e)
  intro k
  induction k with
  | zero =>
    intro i s hk hi hst hkp hJ hR
    obtain rfl : i = items.size := by omega
    refine codeAny_builtin F.entry_set_update_loop ?_
    rw [Around.under_plainId F.plain_set_update_loop _]
    show wpAny _ A.in1 (pyNext (.ref I) >>= _) _ _ s
    refine wpAny_bind (W.done s _ _ hst fun s' hm => ?_)
    show wpAny _ A.in1 (ret Value.none) _ _ s'
    have hkp' := old hm hkp
    exact wpAny_pure (hR s' (hm.mono hsub) (D.keep _ _ _ hJ (fun o e => hm.heap S o hSw e) hkp') hkp')
  | succ k ih =>
    intro i s hk hi hst hkp hJ hR
    have hlt : i < items.size := by omega
    refine codeAny_builtin F.entry_set_update_loop ?_
    rw [Around.under_plainId F.plain_set_update_loop _]
    show wpAny _ A.in1 (pyNext (.ref I) >>= _) _ _ s
    refine wpAny_bind (W.item i s _ _ hlt hst fun v s' hv hst' hm => ?_)
    have hkp' := old hm hkp
    have hJ' := D.keep _ _ _ hJ (fun o e => hm.heap S o hSw e) hkp'
    show wpAny _ A.in1 (holding [v] (setAdd S v) >>= _) _ _ s'
    refine wpAny_bind (wpAny_holding (D.add A.in1 _ s' i v _ hv hu hJ' hkp' fun b h' tk htk hsb hJ2 => ?_))
    have hkp2 : ∀ b o, h0.get? b = some o → h'.get? b = some o := fun b o e => (hsb.2 b (fun z => by rw [z, hS0] at e; cases e)).trans (hkp' b o e)
    refine wpAny_pure ⟨plainId_quiet F.plain_set_update_loop _, ih (i + 1) _ (by omega) hlt (W.frame _ s' _ _ hst' htk fun b hb o e => ?_) hkp2 hJ2 fun s'' hm'' hJ'' hkp'' => ?_⟩
    · rw [hsb.2 b (fun z : b = S => hSf (by rw [← z]; exact hb))]; exact e
    · refine hR s'' (Moved.trans W.gtrans ((hm.mono hsub).then_heap htk fun b o hb e => ?_) hm'') hJ'' hkp''
      rw [hsb.2 b (fun z : b = S => hb (by rw [z]; exact List.mem_cons_self))]; exact e
/-- a new set, as the model makes it -/
abbrev newSetObj (w : World) : Obj := { cls := .type "set", dict := none, data := .set #[] 0 (.fresh 0 0 (!w.params.followText "set-order")) }
theorem call_set_by {l : Addr} {items : Array Value} {J : Nat → Heap → Prop} {Q : Value → Shared → Prop} (hh : A.handled = none) (hl : s.heap.IsList l items) (D : Adder P w s.heap.objs.size items s.heap J)
    (h0 : ∀ h', h'.get? s.heap.objs.size = some (newSetObj w) → (∀ b o, s.heap.get? b = some o → h'.get? b = some o) → J 0 h') (hu : A.units + 12 < cLine)
    (h : ∀ (h' : Heap) (tk : Nat), J items.size h' → (∀ b o, s.heap.get? b = some o → h'.get? b = some o) → Q (.ref s.heap.objs.size) { s with heap := h', toks := tk }) :
    wpAny (model P w) A (call (.type "set") [.ref l]) Q E s := by
  obtain ⟨c, tl, hmro⟩ := F.called_set.mro
  have hmade := F.called_set.made
  have hsub := F.called_set.sub
  refine wpAny_call (codeAny_of_tree ?_)
  show wpAny _ _ (callAny (.type "set") _) _ _ _
  refine wpAny_pure ⟨Code.quiet_builtin _ (by decide +kernel), codeAny_builtin F.entry_type_call ?_⟩
  rw [Around.under_plain (weight_type_call_type "set" [.ref l] []) rfl]
  have h1 := F.called_set.notType
  have h2 := F.called_set.canCreate
  have hct := F.typeCall_set_1 (.ref l)
  repeat (any_goals (first | assumption | wp_step))
  refine codeAny_mono (code_set_led1 (.ref l) (E := E) (Q₁ := fun obj s₁ => obj = .ref s.heap.objs.size ∧ s₁ = { s with heap := s.heap.push (newSetObj w) }) ⟨rfl, rfl⟩) fun r s₁ hr => ?_
  cases r with
  | error e => exact hr
  | ok fl =>
    cases fl with
    | ret obj =>
      obtain ⟨rfl, rfl⟩ := hr
      have hS : (s.heap.push (newSetObj w)).get? s.heap.objs.size = some (newSetObj w) := Heap.get?_push_size _ rfl
      have hT : Shared.TypeIs { s with heap := s.heap.push (newSetObj w) } (.ref s.heap.objs.size) "set" := ⟨_, hS, rfl⟩
      have hli := F.called_set.init.lookup
      have hbi := F.called_set.init.bind (.ref s.heap.objs.size)
      repeat (any_goals (first | assumption | wp_step))
      refine codeAny_mono (codeAny_call_builtin (R := wants (fun r s₂ => r = .none ∧ ∃ h' tk, s₂ = { s with heap := h', toks := tk } ∧ J items.size h' ∧ (∀ b o, s.heap.get? b = some o → h'.get? b = some o)) E) F.called_set.init.plain F.entry_set_init (check_set_init_1 hT ?_)) fun r₂ s₂ hr₂ => ?_
      · obtain ⟨ol, hol, hcl, nl, hdl⟩ := hl
        obtain ⟨ocls, odict, odata, oslots⟩ := ol
        simp only at hcl hdl
        subst hcl; subst hdl
        have hol' : (s.heap.push (newSetObj w)).get? l = some { cls := .type "list", dict := odict, data := .seq items nl, slots := oslots } := Heap.get?_push_of_some _ hol
        have hsls := F.sub_list_set
        have hslf := F.sub_list_frozenset
        have hne : (Value.type "list" == Value.type "dict") = false := by decide
        have hl1 : (s.heap.push (newSetObj w)).IsList l items := ⟨_, hol', rfl, nl, rfl⟩
        unfold Builtin.«set.__init__» noKeywords Builtin.Frozenset.updateFrom
        generalize hPI : pyIter = PI
        wp_walk
        subst hPI
        refine wpAny_pyIter_list hl1 ?_
        refine wpAny_bind (wpAny_runValue ?_)
        have hlS : l < s.heap.objs.size := Heap.lt_size hol
        have hh3 : A.in1.in1.in1.handled = none := by simp [hh]
        have hneI : l ≠ (s.heap.push (newSetObj w)).objs.size := by
          rw [Heap.size_push]; exact Nat.ne_of_lt (Nat.lt_succ_of_lt hlS)
        have hSf : s.heap.objs.size ∉ [(s.heap.push (newSetObj w)).objs.size, l] := by
          rw [Heap.size_push]
          simp only [List.mem_cons, List.mem_singleton, List.not_mem_nil, or_false, not_or]
          exact ⟨Nat.ne_of_lt (Nat.lt_succ_self _), Nat.ne_of_gt hlS⟩
        have none_of : ∀ b, s.heap.objs.size ≤ b → s.heap.get? b = none := fun b hb => by
          cases q : s.heap.get? b with
          | none => rfl
          | some o => exact absurd (Nat.lt_of_lt_of_le (Heap.lt_size q) hb) (Nat.lt_irrefl _)
        have kp0 : ∀ b o, s.heap.get? b = some o → ((s.heap.push (newSetObj w)).push { cls := .type "list_iterator", data := .fields #[.ref l, .int 0 0] }).get? b = some o := fun b o e => Heap.get?_push_of_some _ (Heap.get?_push_of_some _ e)
        refine set_loop ((Walks.list hh3 _ l hneI items).toS) D hSf (none_of _ (Nat.le_refl _)) (fun b hb => none_of b (by
            rw [List.mem_singleton.mp hb, Heap.size_push]
            exact Nat.le_succ _)) (by show A.units + 1 + 1 + 1 + 8 < cLine; omega) (items.size - 0) 0 _ (by omega) (Nat.zero_le _)
          ⟨⟨_, Heap.get?_push_size _ rfl, rfl, rfl⟩, (hl1.push _)⟩ kp0 (h0 _ (Heap.get?_push_of_some _ hS) kp0) ?hR
        case hR =>
          intro s' hm hJ' hkp
          obtain ⟨h', g2, d', tk', os'⟩ := s'
          have eg : g2 = s.gens := hm.gens
          have ed : d' = s.drawn := hm.drawn
          have eo : os' = s.os := hm.os
          subst eg; subst ed; subst eo
          show wpAny _ _ _ _ _ _
          refine wpAny_pure ?_
          show wpAny _ _ (ret Value.none) _ _ _
          exact wpAny_pure ⟨rfl, h', tk', rfl, hJ', hkp⟩
      · cases r₂ with
        | error e => exact hr₂
        | ok fl₂ =>
          cases fl₂ with
          | ret r =>
            obtain ⟨rfl, h', tk, rfl, hJ', hk'⟩ := hr₂
            repeat (any_goals (first | assumption | wp_step))
            exact h _ _ hJ' hk'
          | _ => exact hr₂.elim
    | _ => exact hr.elim
end
end Sn
set_option Elab.async false
set_option linter.all false
set_option maxRecDepth 100000
set_option maxHeartbeats 4000000
namespace Sn
open PySem PySem.Spec PyProof.Rows L2
/-! ### how many there are -/
theorem le_of_sub {α : Type} [DecidableEq α] : ∀ (l m : List α), l.Nodup → (∀ x ∈ l, x ∈ m) → l.length ≤ m.length
  | [], _, _, _ => Nat.zero_le _
  | x :: l, m, hn, hs => by
    obtain ⟨h1, h2⟩ := List.nodup_cons.mp hn
    have hx := hs x List.mem_cons_self
    have ih := le_of_sub l (m.erase x) h2 fun y hy => (List.mem_erase_of_ne (show y ≠ x from fun e => h1 (by rw [← e]; exact hy))).mpr (hs y (List.mem_cons_of_mem _ hy))
    rw [List.length_erase_of_mem hx] at ih
    have := List.length_pos_of_mem hx
    simp only [List.length_cons]
    omega
theorem perm_of_sub {α : Type} [DecidableEq α] : ∀ (l m : List α), l.Nodup → (∀ x ∈ l, x ∈ m) → m.length ≤ l.length → l.Perm m
  | [], m, _, _, h => by
    obtain rfl : m = [] := List.length_eq_zero_iff.mp (Nat.le_zero.mp h)
    exact List.Perm.refl _
  | x :: l, m, hn, hs, h => by
    obtain ⟨h1, h2⟩ := List.nodup_cons.mp hn
    have hx := hs x List.mem_cons_self
    have ih := perm_of_sub l (m.erase x) h2 (fun y hy => (List.mem_erase_of_ne (show y ≠ x from fun e => h1 (by rw [← e]; exact hy))).mpr (hs y (List.mem_cons_of_mem _ hy))) (by
      rw [List.length_erase_of_mem hx]
      simp only [List.length_cons] at h
      omega)
    exact (ih.cons x).trans (List.perm_cons_erase hx).symm
/-- D has no two alike and the items of l: told by its length -/
theorem count_is {α : Type} [DecidableEq α] {D l : List α} (hn : D.Nodup) (h : ∀ x, x ∈ D ↔ x ∈ l) : D.length ≤ l.length ∧ (D.length = l.length ↔ l.Nodup) := by
  refine ⟨le_of_sub D l hn fun x hx => (h x).mp hx, fun e => ?_, fun hl => ?_⟩
  · exact (perm_of_sub D l hn (fun x hx => (h x).mp hx) (by omega)).nodup_iff.mp hn
  · exact Nat.le_antisymm (le_of_sub D l hn fun x hx => (h x).mp hx) (le_of_sub l D hl fun x hx => (h x).mpr hx)
theorem take_more {α : Type} {l : List α} {i : Nat} {x : α} (h : l[i]? = some x) : l.take (i + 1) = l.take i ++ [x] := by
  rw [List.take_add_one, h]
  rfl
section
variable {P : Program} {w : World} {A : Around} {E : Value → Shared → Prop} {s : Shared}
/-! ### keys -/
/-- what the set has got from the first items -/
structure Has (P : Program) (w : World) (h : Heap) (S : Addr) (ks : List (Addr × NestedKey)) (i : Nat) : Prop where
  ex : ∃ L es ep t, St P w h S L es ep t ∧ (∀ p ∈ L, p ∈ ks) ∧ (∀ k, k ∈ L.map (·.2) ↔ k ∈ (ks.take i).map (·.2)) ∧ L.length ≤ i
theorem st_new {h : Heap} {S : Addr} (ho : h.get? S = some (newSetObj w)) : St P w h S [] #[] 0 (.fresh 0 0 (!w.params.followText "set-order")) where
  ob := ⟨_, ho, ⟨rfl, rfl, rfl⟩, rfl⟩
  rows := rfl
  tab := ⟨List.Pairwise.nil, rfl, rfl, mk_of (.inl rfl), fun x hx => (by cases hx), fun i h j hi => (by simp at hi)⟩
  nd := List.nodup_nil
  key := fun p hp => (by cases hp)
  room := by show 0 * 5 < 7 * 3; decide
  msk := .inl rfl
theorem adder_keys {S : Addr} {items : Array Value} {h0 : Heap} (ks : List (Addr × NestedKey)) (hit : items.toList = ks.map fun p => Value.ref p.1) (hk : ∀ p ∈ ks, IsK P w h0 p.2 p.1) (hS : h0.get? S = none) (hfew : ks.length ≤ 300) : Adder P w S items h0 (fun i h => Has P w h S ks i) where
  keep := fun i h h' ⟨L, es, ep, t, R, hs, hm, hl⟩ kS kO => by
    obtain ⟨o, ho, r⟩ := R.ob
    exact ⟨L, es, ep, t, ⟨⟨o, kS o ho, r⟩, R.rows, R.tab, R.nd, fun p hp => nestedKind_stays.stays (fun b u vs n e q => kO b u e) (hk p (hs p hp)), R.room, R.msk⟩, hs, hm, hl⟩
  add := fun A E s i v Q hv hu ⟨L, es, ep, t, R, hs, hm, hl⟩ kO hQ => by
    have hv2 : items.toList[i]? = some v := by rw [Array.getElem?_toList]; exact hv
    rw [hit, List.getElem?_map] at hv2
    obtain ⟨p, hp, rfl⟩ := Option.map_eq_some_iff.mp hv2
    have hi := (List.getElem?_eq_some_iff.mp hp).1
    have hmem := List.mem_of_getElem? hp
    have hx : IsK P w s.heap p.2 p.1 := nestedKind_stays.stays (fun b u vs n e q => kO b u e) (hk p hmem)
    have hu' : (Kd P w).room A := hu
    unfold setAdd
    refine wpAny_holding (wpAny_bind ((Kd P w).pyHash hu' hx ?_))
    refine add_key (s := { s with toks := s.toks + (Kd P w).draws p.2 }) R hx hu' (by omega) fun b h' L' es' ep' t' hsb R' c1 c2 => ?_
    refine hQ b h' _ (Nat.le_add_right _ _) hsb ⟨L', es', ep', t', R', ?_, fun k => ?_, ?_⟩
    · rcases Classical.em (p.2 ∈ L.map (·.2)) with c | c
      · rw [c1 c]; exact hs
      · intro q hq
        rcases List.mem_cons.mp ((c2 c).mem_iff.mp hq) with e | hq
        · rw [e]; exact hmem
        · exact hs q hq
    · rw [take_more hp, List.map_append, List.mem_append, ← hm k]
      rcases Classical.em (p.2 ∈ L.map (·.2)) with c | c
      · rw [c1 c]
        exact ⟨.inl, fun z => z.elim id fun z => by
          obtain rfl : k = p.2 := by simpa using z
          exact c⟩
      · rw [((c2 c).map (·.2)).mem_iff]
        simp only [List.map_cons, List.map_nil, List.mem_cons, List.not_mem_nil, or_false]
        exact Or.comm
    · rcases Classical.em (p.2 ∈ L.map (·.2)) with c | c
      · rw [c1 c]; omega
      · rw [(c2 c).length_eq]; simp only [List.length_cons]; omega
/-! ### texts -/
structure HasS (P : Program) (w : World) (h : Heap) (S : Addr) (xs : List Str) (i : Nat) : Prop where
  ex : ∃ (F : Str → Bool) (D : List Str), h.SetOf (PySem.strKind P w) S F D.length ∧ D.Nodup ∧ (∀ x, x ∈ D ↔ x ∈ xs.take i) ∧ (∀ x, F x = true ↔ x ∈ D) ∧ D.length ≤ i
theorem adder_strs {S : Addr} {items : Array Value} {h0 : Heap} (xs : List Str) (hit : StrsAre items.toList xs) (hfew : xs.length ≤ 4000) : Adder P w S items h0 (fun i h => HasS P w h S xs i) where
  keep := fun i h h' ⟨F, D, R, hn, hm, hf, hl⟩ kS kO => by
    obtain ⟨o, es, ep, t, ho, r⟩ := R
    exact ⟨F, D, ⟨o, es, ep, t, kS o ho, r⟩, hn, hm, hf, hl⟩
  add := fun A E s i v Q hv hu ⟨F, D, R, hn, hm, hf, hl⟩ kO hQ => by
    have hv2 : items.toList[i]? = some v := by rw [Array.getElem?_toList]; exact hv
    obtain ⟨x, tk, rfl, hx⟩ : ∃ x tk, v = .str x tk ∧ xs[i]? = some x := by
      have go : ∀ {us : List Value} {ys : List Str}, StrsAre us ys → ∀ (i : Nat) (v : Value), us[i]? = some v → ∃ x tk, v = .str x tk ∧ ys[i]? = some x := by
        intro us ys hs
        induction hs with
        | nil => intro i v h; cases h
        | cons n t hr ih =>
          intro i v h
          cases i with
          | zero => cases h; exact ⟨_, _, rfl, rfl⟩
          | succ i => exact ih i v h
      exact go hit i v hv2
    have hi := (List.getElem?_eq_some_iff.mp hx).1
    unfold setAdd
    refine wpAny_holding (wpAny_bind ((PySem.strKind P w).pyHash (k := x) (strKind_is _ _ _ _) ?_))
    refine wpAny_setAddHashed_of (knd := PySem.strKind P w) (s := { s with toks := s.toks + 1 }) (strKind_is _ _ _ _) rfl R (by unfold scanBound; omega) fun h' hsb R' => ?_
    by_cases c : x ∈ D
    · have hF : F x = true := (hf x).mpr c
      rw [if_pos hF] at R'
      refine hQ _ h' _ (Nat.le_succ _) hsb ⟨_, D, R', hn, fun y => ?_, fun y => ?_, by omega⟩
      · rw [take_more hx, List.mem_append, ← hm y]
        exact ⟨.inl, fun z => z.elim id fun z => by
          obtain rfl : y = x := by simpa using z
          exact c⟩
      · rw [Bool.or_eq_true, hf y, decide_eq_true_eq]
        exact ⟨fun z => z.elim id fun z => z ▸ c, .inl⟩
    · have hF : F x = false := by
        cases e : F x with
        | false => rfl
        | true => exact absurd ((hf x).mp e) c
      rw [if_neg (by rw [hF]; exact Bool.false_ne_true)] at R'
      refine hQ _ h' _ (Nat.le_succ _) hsb ⟨_, x :: D, R', List.nodup_cons.mpr ⟨c, hn⟩, fun y => ?_, fun y => ?_, by simp only [List.length_cons]; omega⟩
      · rw [take_more hx, List.mem_append, List.mem_cons, hm y]
        simp only [List.mem_cons, List.not_mem_nil, or_false]
        exact Or.comm
      · rw [Bool.or_eq_true, hf y, decide_eq_true_eq, List.mem_cons]
        exact Or.comm
end
end Sn
set_option Elab.async false
set_option linter.all false
set_option maxRecDepth 100000
set_option maxHeartbeats 4000000
namespace Sn
open PySem PySem.Spec PyProof.Rows L2
/-! ### keys among the values -/
mutual
/-- the value is the key -/
def NkV (K : PySem.W.Frag) (H : Hp) : NestedKey → V → Prop
  | .none, v => v = .non
  | .num i, v => v = .int i
  | .text x, v => v = .str x
  | .tup ks, v => ∃ a xs, v = .ref a ∧ SqT K H a xs ∧ NkA K H ks xs
def NkA (K : PySem.W.Frag) (H : Hp) : List NestedKey → List V → Prop
  | [], xs => xs = []
  | k :: ks, xs => ∃ x r, xs = x :: r ∧ NkV K H k x ∧ NkA K H ks r
end
section
variable {X : Cx} {pins : List (Addr × Obj)} {σ : L2.St} {H : Hp} {s : Shared}
mutual
theorem nk_is (I : Inv X pins σ H s) : ∀ (k : NestedKey) (v : V) (u : Value), NkV X.K H k v → RelV v u → NestedIs s.heap k u
  | .none, _, _, h, r => by
    unfold NkV at h
    subst h
    cases r
    exact .none
  | .num i, _, _, h, r => by
    unfold NkV at h
    subst h
    obtain ⟨t, rfl⟩ := r
    exact .int i t
  | .text x, _, _, h, r => by
    unfold NkV at h
    subst h
    obtain ⟨t, rfl⟩ := r
    exact .text x t
  | .tup ks, _, _, h, r => by
    unfold NkV at h
    obtain ⟨a, xs, rfl, hs, ha⟩ := h
    cases r
    obtain ⟨its, rv, ⟨o, ho, hc, n, hd⟩, _⟩ := I.tuple hs
    exact .tup ho hc hd (by simpa using nk_all I ks xs its ha rv)
theorem nk_all (I : Inv X pins σ H s) : ∀ (ks : List NestedKey) (xs : List V) (us : List Value), NkA X.K H ks xs → Vals xs us → NestedAll s.heap ks us
  | [], _, _, h, r => by
    unfold NkA at h
    subst h
    cases r
    exact .nil
  | k :: ks, _, _, h, r => by
    unfold NkA at h
    obtain ⟨x, q, rfl, h1, h2⟩ := h
    cases r with
    | cons r1 r2 => exact .cons (nk_is I k x _ h1 r1) (nk_all I ks q _ h2 r2)
end
end
/-- tuples that are keys, by their places -/
structure KeyAt (K : PySem.W.Frag) (H : Hp) (p : Addr × NestedKey) : Prop where
  is : NkV K H p.2 (.ref p.1)
  dep : p.2.depth ≤ 8
theorem refs_are {ks : List (Addr × NestedKey)} : ∀ {us : List Value}, Vals (ks.map fun p => V.ref p.1) us → us = ks.map fun p => Value.ref p.1 := by
  induction ks with
  | nil => intro us r; cases r; rfl
  | cons p ks ih =>
    intro us r
    cases r with
    | cons r1 r2 =>
      rw [ih r2]
      cases r1
      rfl
section
variable {X : Cx}
/-- len(set(xs)): texts, or tuples that are keys -/
def tLenSetN (K : PySem.W.Frag) (ta : TE) : TE := fun σ H Q => ta σ H fun x H1 => ∃ l, x = V.ref l ∧
  ((∃ ks : List (Addr × NestedKey), SqL K H1 l (ks.map fun p => V.ref p.1) ∧ (∀ p ∈ ks, KeyAt K H1 p) ∧ ks.length ≤ 300 ∧ ∀ n : Nat, n ≤ ks.length → (n = ks.length ↔ (ks.map (·.2)).Nodup) → Q (.int n) H1) ∨
   (∃ xs : List Str, SqL K H1 l (xs.map V.str) ∧ xs.length ≤ 4000 ∧ ∀ n : Nat, n ≤ xs.length → (n = xs.length ↔ xs.Nodup) → Q (.int n) H1))
theorem pe_lenSetN {a : Expr} {ta : TE} {p p2 q pos : Pos} {K : PySem.W.Frag} (hK : X.K = K) (hc : X.calm = true) (hu : X.A.units + 64 < cLine) (hg : Gl X "len") (hm : X.mg "len" = none) (hg2 : Gl X "set") (hm2 : X.mg "set" = none) (ha : PE X a ta)
    (na : starEach [a] X.env = (false, eval a X.env) :: starEach [] X.env := by rfl) : PE X (.Call (.Name "len" p) [.Call (.Name "set" p2) [a] [] q] [] pos) (tLenSetN K ta) := by
  subst hK
  refine ⟨fun pins s σ H Q I h => ?_⟩
  refine Call_ (ld_blt I hg hm PySem.boot_len ?_)
  refine PyProof.Rows.callWith_builtin1 (PyProof.Rows.args_cons ?_ rfl) rfl rfl
  refine Call_ (ld_blt I hg2 hm2 PyProof.Rows.boot_set ?_)
  refine PyProof.Rows.callWith_type1 (PyProof.Rows.args_cons (thn (ha.run pins s σ H _ I h) fun v s1 ⟨x, H1, I1, r1, q1⟩ => PyProof.Rows.args_nil ?_) na) na rfl
  obtain ⟨l, rfl, q1⟩ := q1
  cases r1
  have fresh : s1.heap.get? s1.heap.objs.size = none := by
    cases e : s1.heap.get? s1.heap.objs.size with
    | none => rfl
    | some o => exact absurd (Heap.lt_size e) (Nat.lt_irrefl _)
  rcases q1 with ⟨ks, hq, hk, hf, q1⟩ | ⟨xs, hq, hf, q1⟩
  · obtain ⟨its, rv, pl, hz⟩ := I1.list hq
    have hit := refs_are rv
    have hisz : its.toArray.size = ks.length := by rw [List.size_toArray, hit, List.length_map]
    refine call_set_by (w := X.w) (I1.ok.hd hc) pl.isList (adder_keys ks (by simpa using hit) (fun p hp => ⟨nk_is I1 p.2 _ _ (hk p hp).is rfl, (hk p hp).dep⟩) fresh hf) (fun h' hS _ => ⟨[], #[], 0, _, st_new hS, (fun p hp => by cases hp), (fun k => by simp), Nat.le_refl _⟩) (by omega) fun h' tk ⟨L, es, ep, t, R, hs, hmem, hl⟩ hkp => ?_
    refine PyProof.Rows.args_nil ?_
    obtain ⟨o, ho, hex, hd⟩ := R.ob
    have hn := rows_len R.rows
    rw [hisz, List.take_length] at hmem
    obtain ⟨c1, c2⟩ := count_is R.nd hmem
    rw [List.length_map, List.length_map] at c1 c2
    have I2 : Inv X pins σ H1 { s1 with heap := h', toks := tk } := I1.kept fun b o e => hkp b o e
    exact call_len_set ho hex hd R.fits (by rw [hn]; omega) ⟨.int L.length, H1, I2.tok _, ⟨_, by rw [hn]⟩, q1 L.length c1 c2⟩
  · obtain ⟨its, rv, pl, hz⟩ := I1.list hq
    have hlen : its.length = xs.length := by rw [← rv.length, List.length_map]
    refine call_set_by (w := X.w) (I1.ok.hd hc) pl.isList (adder_strs xs (by simpa using strs_of_vals rv) hf) (fun h' hS _ => ⟨fun _ => false, [], ⟨_, #[], 0, _, hS, ⟨rfl, rfl, rfl⟩, rfl, fun e he => by simp at he, fun k => by simp, by decide, by rfl, rfl⟩, List.nodup_nil, fun x => by simp, fun x => by simp, Nat.le_refl _⟩) (by omega) fun h' tk ⟨F, D, R, hn, hmem, hF, hl⟩ hkp => ?_
    refine PyProof.Rows.args_nil ?_
    obtain ⟨o, es, ep, t, ho, hex, hd, _, _, hb, hfit, hsz⟩ := R
    rw [List.size_toArray, hlen, List.take_length] at hmem
    obtain ⟨c1, c2⟩ := count_is hn hmem
    have I2 : Inv X pins σ H1 { s1 with heap := h', toks := tk } := I1.kept fun b o e => hkp b o e
    exact call_len_set ho hex hd hfit (by rw [hsz]; omega) ⟨.int D.length, H1, I2.tok _, ⟨_, by rw [hsz]⟩, q1 D.length c1 c2⟩
end
end Sn
set_option Elab.async false
set_option linter.all false
set_option maxRecDepth 100000
set_option maxHeartbeats 2000000
namespace Gx
open PySem PySem.Spec PyProof.Rows L2 StX
section
variable {X : Cx} {K : PySem.W.Frag} {es : List Expr} {e : Expr} {te : TE} {t : TA} {p : Pos}
theorem pa_starK (h : X.K = K) (he : PE X e te) (hr : PA X es t) (hs : starEach (.Starred e p :: es) X.env = (true, eval e X.env) :: starEach es X.env := by rfl) : PA X (.Starred e p :: es) (tStar K te t) := by
  subst h; exact pa_star he hr hs
/-- text * int -/
def rMulStr : R2 := fun x y H Q => ∃ (z : Str) (n : Int), x = .str z ∧ y = .int n ∧ PySem.MulOk z n ∧ Q (.str (Txt.mul z n)) H
theorem op_mul_str : OpR X (binaryOp .Mult) rMulStr := by
  intro pins s σ H x y v u Q I rx ry h
  obtain ⟨z, n, rfl, rfl, hok, q⟩ := h
  obtain ⟨t, rfl⟩ := rx
  obtain ⟨t', rfl⟩ := ry
  exact PySem.SB.mul hok fun t2 k => ⟨.str (Txt.mul z n), H, I.tok _, ⟨_, rfl⟩, q⟩
end
end Gx
set_option Elab.async false
set_option linter.all false
set_option maxRecDepth 100000
set_option maxHeartbeats 4000000
namespace K0
open PySem PySem.Spec PyProof.Rows L2 Gx
def topS (i : Nat) : Stmt := PySem.Challenge.pw_fewrules_k00_signatures_and_worlds_refus.main.body.getD i (.Pass ⟨0, 0, 0, 0⟩)
abbrev s_is_name : Stmt := topS 7
theorem sc_is_name : FnScope ["word"] ["word"] (defScope s_is_name) := ⟨rfl, rfl, rfl, by decide +kernel, rfl, by decide +kernel, by decide +kernel⟩
abbrev s_World_init : Stmt := (C8.clsBody (topS 10)).getD 0 (.Pass ⟨0, 0, 0, 0⟩)
theorem sc_World_init : FnScope ["self", "constants", "facts", "reason"] ["self", "constants", "facts"] (defScope s_World_init) := ⟨rfl, rfl, rfl, by decide +kernel, rfl, by decide +kernel, by decide +kernel⟩
abbrev s_world_fault : Stmt := topS 11
theorem sc_world_fault : FnScope ["constants", "facts"] ["constants", "facts"] (defScope s_world_fault) := ⟨rfl, rfl, rfl, by decide +kernel, rfl, by decide +kernel, by decide +kernel⟩
abbrev s_is_about : Stmt := topS 12
theorem sc_is_about : FnScope ["fact", "constants", "row"] ["fact", "constants"] (defScope s_is_about) := ⟨rfl, rfl, rfl, by decide +kernel, rfl, by decide +kernel, by decide +kernel⟩
abbrev s_Signature_init : Stmt := (C8.clsBody (topS 14)).getD 0 (.Pass ⟨0, 0, 0, 0⟩)
theorem sc_Signature_init : FnScope ["self", "known", "unknown", "reason"] ["self", "known", "unknown"] (defScope s_Signature_init) := ⟨rfl, rfl, rfl, by decide +kernel, rfl, by decide +kernel, by decide +kernel⟩
abbrev s_signature_fault : Stmt := topS 15
theorem sc_signature_fault : FnScope ["known", "unknown", "relations", "names", "name", "_"] ["known", "unknown"] (defScope s_signature_fault) := ⟨rfl, rfl, rfl, by decide +kernel, rfl, by decide +kernel, by decide +kernel⟩
abbrev s__law_draws : Stmt := topS 17
theorem sc__law_draws : FnScope ["script", "draws", "cell", "number", "first", "k", "seed"] ["script"] (defScope s__law_draws) := ⟨rfl, rfl, rfl, by decide +kernel, rfl, by decide +kernel, by decide +kernel⟩
abbrev s__law_take : Stmt := topS 18
theorem sc__law_take : FnScope ["draws", "bound"] ["draws", "bound"] (defScope s__law_take) := ⟨rfl, rfl, rfl, by decide +kernel, rfl, by decide +kernel, by decide +kernel⟩
abbrev s__law_tuples : Stmt := topS 19
theorem sc__law_tuples : FnScope ["items", "count", "rows", "place", "longer", "row", "item"] ["items", "count"] (defScope s__law_tuples) := ⟨rfl, rfl, rfl, by decide +kernel, rfl, by decide +kernel, by decide +kernel⟩
abbrev s__law_is_name : Stmt := topS 20
theorem sc__law_is_name : FnScope ["word", "sign"] ["word"] (defScope s__law_is_name) := ⟨rfl, rfl, rfl, by decide +kernel, rfl, by decide +kernel, by decide +kernel⟩
abbrev s__law_relations : Stmt := topS 21
theorem sc__law_relations : FnScope ["draws", "letters", "rows", "k", "name", "places", "letter"] ["draws", "letters"] (defScope s__law_relations) := ⟨rfl, rfl, rfl, by decide +kernel, rfl, by decide +kernel, by decide +kernel⟩
abbrev s__law_signature_due : Stmt := topS 22
theorem sc__law_signature_due : FnScope ["known", "unknown", "rows", "name", "places", "k"] ["known", "unknown"] (defScope s__law_signature_due) := ⟨rfl, rfl, rfl, by decide +kernel, rfl, by decide +kernel, by decide +kernel⟩
abbrev s__law_signature_told : Stmt := topS 23
theorem sc__law_signature_told : FnScope ["known", "unknown", "e"] ["known", "unknown"] (defScope s__law_signature_told) := ⟨rfl, rfl, rfl, by decide +kernel, rfl, by decide +kernel, by decide +kernel⟩
abbrev s__law_constants : Stmt := topS 24
theorem sc__law_constants : FnScope ["draws", "rows"] ["draws"] (defScope s__law_constants) := ⟨rfl, rfl, rfl, by decide +kernel, rfl, by decide +kernel, by decide +kernel⟩
abbrev s__law_facts : Stmt := topS 25
theorem sc__law_facts : FnScope ["draws", "constants", "rows", "places", "row", "kind", "every"] ["draws", "constants"] (defScope s__law_facts) := ⟨rfl, rfl, rfl, by decide +kernel, rfl, by decide +kernel, by decide +kernel⟩
abbrev s__law_world_due : Stmt := topS 26
theorem sc__law_world_due : FnScope ["constants", "facts", "name", "row", "constant", "k"] ["constants", "facts"] (defScope s__law_world_due) := ⟨rfl, rfl, rfl, by decide +kernel, rfl, by decide +kernel, by decide +kernel⟩
abbrev s__law_world_told : Stmt := topS 27
theorem sc__law_world_told : FnScope ["constants", "facts", "e"] ["constants", "facts"] (defScope s__law_world_told) := ⟨rfl, rfl, rfl, by decide +kernel, rfl, by decide +kernel, by decide +kernel⟩
abbrev s_law : Stmt := topS 28
theorem sc_law : FnScope ["script", "draws", "turn", "known", "unknown", "due", "given", "made", "constants", "facts", "world"] ["script"] (defScope s_law) := ⟨rfl, rfl, rfl, by decide +kernel, rfl, by decide +kernel, by decide +kernel⟩
structure Ads where
  (f_is_name c_is_name P_is_name : Addr) (fd_is_name : FuncData)
  (f_World_init c_World_init P_World_init : Addr) (fd_World_init : FuncData)
  (f_world_fault c_world_fault P_world_fault : Addr) (fd_world_fault : FuncData)
  (f_is_about c_is_about P_is_about : Addr) (fd_is_about : FuncData)
  (f_Signature_init c_Signature_init P_Signature_init : Addr) (fd_Signature_init : FuncData)
  (f_signature_fault c_signature_fault P_signature_fault : Addr) (fd_signature_fault : FuncData)
  (f__law_draws c__law_draws P__law_draws : Addr) (fd__law_draws : FuncData)
  (f__law_take c__law_take P__law_take : Addr) (fd__law_take : FuncData)
  (f__law_tuples c__law_tuples P__law_tuples : Addr) (fd__law_tuples : FuncData)
  (f__law_is_name c__law_is_name P__law_is_name : Addr) (fd__law_is_name : FuncData)
  (f__law_relations c__law_relations P__law_relations : Addr) (fd__law_relations : FuncData)
  (f__law_signature_due c__law_signature_due P__law_signature_due : Addr) (fd__law_signature_due : FuncData)
  (f__law_signature_told c__law_signature_told P__law_signature_told : Addr) (fd__law_signature_told : FuncData)
  (f__law_constants c__law_constants P__law_constants : Addr) (fd__law_constants : FuncData)
  (f__law_facts c__law_facts P__law_facts : Addr) (fd__law_facts : FuncData)
  (f__law_world_due c__law_world_due P__law_world_due : Addr) (fd__law_world_due : FuncData)
  (f__law_world_told c__law_world_told P__law_world_told : Addr) (fd__law_world_told : FuncData)
  (f_law c_law P_law : Addr) (fd_law : FuncData)
  (C_FewrulesError : Addr)
  (C_TooLarge I_TooLarge : Addr)
  (C_InvalidSignature I_InvalidSignature : Addr)
  (C_InvalidWorld I_InvalidWorld : Addr)
  (C_World : Addr)
  (C_Signature : Addr)
structure Txt (K : PySem.W.Frag) (mg : Str → Option Value) (a : Ads) : Prop where
  g_is_name : mg "is_name" = some (.ref a.f_is_name)
  F_is_name : FunT K "is_name" s_is_name a.f_is_name a.fd_is_name a.c_is_name
  b_is_name : Binds K a.fd_is_name ["word"] []
  F_World_init : FunQ K "__init__" "World.__init__" s_World_init a.f_World_init a.fd_World_init a.c_World_init
  b_World_init : Binds K a.fd_World_init ["self", "constants", "facts"] []
  g_world_fault : mg "world_fault" = some (.ref a.f_world_fault)
  F_world_fault : FunT K "world_fault" s_world_fault a.f_world_fault a.fd_world_fault a.c_world_fault
  b_world_fault : Binds K a.fd_world_fault ["constants", "facts"] []
  g_is_about : mg "is_about" = some (.ref a.f_is_about)
  F_is_about : FunT K "is_about" s_is_about a.f_is_about a.fd_is_about a.c_is_about
  b_is_about : Binds K a.fd_is_about ["fact", "constants"] []
  F_Signature_init : FunQ K "__init__" "Signature.__init__" s_Signature_init a.f_Signature_init a.fd_Signature_init a.c_Signature_init
  b_Signature_init : Binds K a.fd_Signature_init ["self", "known", "unknown"] []
  g_signature_fault : mg "signature_fault" = some (.ref a.f_signature_fault)
  F_signature_fault : FunT K "signature_fault" s_signature_fault a.f_signature_fault a.fd_signature_fault a.c_signature_fault
  b_signature_fault : Binds K a.fd_signature_fault ["known", "unknown"] []
  g__law_draws : mg "_law_draws" = some (.ref a.f__law_draws)
  F__law_draws : FunT K "_law_draws" s__law_draws a.f__law_draws a.fd__law_draws a.c__law_draws
  b__law_draws : Binds K a.fd__law_draws ["script"] []
  g__law_take : mg "_law_take" = some (.ref a.f__law_take)
  F__law_take : FunT K "_law_take" s__law_take a.f__law_take a.fd__law_take a.c__law_take
  b__law_take : Binds K a.fd__law_take ["draws", "bound"] []
  g__law_tuples : mg "_law_tuples" = some (.ref a.f__law_tuples)
  F__law_tuples : FunT K "_law_tuples" s__law_tuples a.f__law_tuples a.fd__law_tuples a.c__law_tuples
  b__law_tuples : Binds K a.fd__law_tuples ["items", "count"] []
  g__law_is_name : mg "_law_is_name" = some (.ref a.f__law_is_name)
  F__law_is_name : FunT K "_law_is_name" s__law_is_name a.f__law_is_name a.fd__law_is_name a.c__law_is_name
  b__law_is_name : Binds K a.fd__law_is_name ["word"] []
  g__law_relations : mg "_law_relations" = some (.ref a.f__law_relations)
  F__law_relations : FunT K "_law_relations" s__law_relations a.f__law_relations a.fd__law_relations a.c__law_relations
  b__law_relations : Binds K a.fd__law_relations ["draws", "letters"] []
  g__law_signature_due : mg "_law_signature_due" = some (.ref a.f__law_signature_due)
  F__law_signature_due : FunT K "_law_signature_due" s__law_signature_due a.f__law_signature_due a.fd__law_signature_due a.c__law_signature_due
  b__law_signature_due : Binds K a.fd__law_signature_due ["known", "unknown"] []
  g__law_signature_told : mg "_law_signature_told" = some (.ref a.f__law_signature_told)
  F__law_signature_told : FunT K "_law_signature_told" s__law_signature_told a.f__law_signature_told a.fd__law_signature_told a.c__law_signature_told
  b__law_signature_told : Binds K a.fd__law_signature_told ["known", "unknown"] []
  g__law_constants : mg "_law_constants" = some (.ref a.f__law_constants)
  F__law_constants : FunT K "_law_constants" s__law_constants a.f__law_constants a.fd__law_constants a.c__law_constants
  b__law_constants : Binds K a.fd__law_constants ["draws"] []
  g__law_facts : mg "_law_facts" = some (.ref a.f__law_facts)
  F__law_facts : FunT K "_law_facts" s__law_facts a.f__law_facts a.fd__law_facts a.c__law_facts
  b__law_facts : Binds K a.fd__law_facts ["draws", "constants"] []
  g__law_world_due : mg "_law_world_due" = some (.ref a.f__law_world_due)
  F__law_world_due : FunT K "_law_world_due" s__law_world_due a.f__law_world_due a.fd__law_world_due a.c__law_world_due
  b__law_world_due : Binds K a.fd__law_world_due ["constants", "facts"] []
  g__law_world_told : mg "_law_world_told" = some (.ref a.f__law_world_told)
  F__law_world_told : FunT K "_law_world_told" s__law_world_told a.f__law_world_told a.fd__law_world_told a.c__law_world_told
  b__law_world_told : Binds K a.fd__law_world_told ["constants", "facts"] []
  g_law : mg "law" = some (.ref a.f_law)
  F_law : FunT K "law" s_law a.f_law a.fd_law a.c_law
  b_law : Binds K a.fd_law ["script"] []
  g_FewrulesError : mg "FewrulesError" = some (.ref a.C_FewrulesError)
  g_TooLarge : mg "TooLarge" = some (.ref a.C_TooLarge)
  E_TooLarge : PySem.Er.ErT K mg "TooLarge" "limit" a.C_TooLarge a.I_TooLarge
  EI_TooLarge : Gx.ErI K a.C_TooLarge
  g_InvalidSignature : mg "InvalidSignature" = some (.ref a.C_InvalidSignature)
  E_InvalidSignature : PySem.Er.ErT K mg "InvalidSignature" "reason" a.C_InvalidSignature a.I_InvalidSignature
  EI_InvalidSignature : Gx.ErI K a.C_InvalidSignature
  g_InvalidWorld : mg "InvalidWorld" = some (.ref a.C_InvalidWorld)
  E_InvalidWorld : PySem.Er.ErT K mg "InvalidWorld" "reason" a.C_InvalidWorld a.I_InvalidWorld
  EI_InvalidWorld : Gx.ErI K a.C_InvalidWorld
  g_World : mg "World" = some (.ref a.C_World)
  M_World : L2.Mk K a.C_World a.f_World_init
  K_World : L2.Cls K a.C_World
  N_World_constants : L2.NoAttr K a.C_World "constants"
  N_World_facts : L2.NoAttr K a.C_World "facts"
  g_Signature : mg "Signature" = some (.ref a.C_Signature)
  M_Signature : L2.Mk K a.C_Signature a.f_Signature_init
  K_Signature : L2.Cls K a.C_Signature
  N_Signature_known : L2.NoAttr K a.C_Signature "known"
  N_Signature_unknown : L2.NoAttr K a.C_Signature "unknown"
  x_InvalidSignature_InvalidSignature : PySem.W.exmOne K (.ref a.C_InvalidSignature) (.ref a.C_InvalidSignature) = some true
  x_InvalidWorld_InvalidWorld : PySem.W.exmOne K (.ref a.C_InvalidWorld) (.ref a.C_InvalidWorld) = some true
  x_TooLarge_InvalidWorld : PySem.W.exmOne K (.ref a.C_TooLarge) (.ref a.C_InvalidWorld) = some false
  x_TooLarge_TooLarge : PySem.W.exmOne K (.ref a.C_TooLarge) (.ref a.C_TooLarge) = some true
  k_InvalidSignature_FewrulesError : PySem.W.kitOne K (.ref a.C_InvalidSignature) (.ref a.C_FewrulesError) = some true
  k_InvalidWorld_FewrulesError : PySem.W.kitOne K (.ref a.C_InvalidWorld) (.ref a.C_FewrulesError) = some true
  len : mg "len" = none
  all : mg "all" = none
  abs : mg "abs" = none
  int : mg "int" = none
  range : mg "range" = none
  list : mg "list" = none
  reversed : mg "reversed" = none
  isinstance : mg "isinstance" = none
  tuple : mg "tuple" = none
  set : mg "set" = none
  m_LETTERS : ∃ u, mg "LETTERS" = some u ∧ RelV (.str "abcdefghijklmnopqrstuvwxyz") u
  m_MOST_FACTS : ∃ u, mg "MOST_FACTS" = some u ∧ RelV (.int 200) u
structure TabT (base : Heap) (mg : Str → Option Value) (a : Ads) : Prop where
  tab_is_name : GxR.TabB base mg a.c_is_name a.P_is_name
  tab_world_fault : GxR.TabB base mg a.c_world_fault a.P_world_fault
  tab_is_about : GxR.TabB base mg a.c_is_about a.P_is_about
  tab_signature_fault : GxR.TabB base mg a.c_signature_fault a.P_signature_fault
end K0
set_option Elab.async false
set_option linter.all false
set_option maxRecDepth 100000
set_option maxHeartbeats 4000000
/-! words: names, short texts; comparisons with the empty list; lists of data -/
namespace Lw
open PySem PySem.Spec PyProof.Rows L2 Gx
abbrev cl (w : Str) : List Nat := w.cps.toList
def letters : List Nat := cl "abcdefghijklmnopqrstuvwxyz"
def lenB (n w : Nat) : Bool := decide ((1 : Int) ≤ (w : Int)) && decide ((w : Int) ≤ (n : Int))
def nameB (w : Str) : Bool := lenB 12 w.length && (cl w).all fun c => decide (c ∈ letters)
theorem len_cl (w : Str) : (cl w).length = w.length := Array.length_toList
structure Wd (w : Str) : Prop where
  len : w.length ≤ 100000
  asc : ∀ c ∈ cl w, c < 128
theorem val {Q : VK} {b c : Bool} {H : Hp} (e : b = c) (q : Q (.bl b) H) : Q (.bl c) H := e ▸ q
theorem Wd.big {w : Str} (h : Wd w) : w.length ≤ sizeLine := Nat.le_trans h.len (by decide)
theorem strsD {K : PySem.W.Frag} {H : Hp} : ∀ l : List Nat, DpAll K H (l.map fun c => V.str ⟨#[c]⟩) (l.map fun c => PyData.str ⟨#[c]⟩)
  | [] => .nil
  | c :: l => .cons (.str _) (strsD l)
theorem shp_signs {l : List Nat} (h : ∀ c ∈ l, c < 128) : SeqAt.shaped (.list (l.map fun c => PyData.str ⟨#[c]⟩)) = true := by
  refine shp_list fun d hd => ?_
  obtain ⟨c, hc, rfl⟩ := List.mem_map.mp hd
  have h1 := h c hc
  refine ⟨?_, Nat.zero_le _⟩
  show (#[c].all fun z => decide (z < 0x110000)) = true
  simp; omega
theorem eqv_nil {l : List PyData} : PyData.eqv (.list l) (.list []) = l.isEmpty := by cases l <;> rfl
theorem fil_all {α β : Type} (l : List α) (p : α → Bool) (f : α → β) : (((l.filter fun c => !p c).map f)).isEmpty = l.all p := by
  induction l with
  | nil => rfl
  | cons c l ih =>
    rw [List.filter_cons, List.all_cons, ← ih]
    cases p c <;> rfl
theorem cps_inj {d c : Nat} : (V.str ⟨#[d]⟩ = V.str ⟨#[c]⟩) ↔ d = c := ⟨fun z => by injection z with z; have z1 := congrArg (fun t : Str => t.cps.toList) z; simpa using z1, fun z => by rw [z]⟩
theorem drop_at {l : List Nat} {i d : Nat} (h : l[i]? = some d) : l.drop i = d :: l.drop (i + 1) := by
  obtain ⟨h1, h2⟩ := List.getElem?_eq_some_iff.mp h
  rw [List.drop_eq_getElem_cons h1, h2]
theorem new_ne {H : Hp} {u t : Addr} {o : HO} (h : upd H u o t = none) : t ≠ u := fun z => by rw [z, upd_same] at h; cases h
theorem sz2 : 2 ≤ sizeLine := by decide
theorem in_letters (c : Nat) : decide (c ∈ letters) = (decide (97 ≤ c) && decide (c ≤ 122)) := by
  have e : letters = (List.range 26).map (· + 97) := by decide
  rw [e, Bool.eq_iff_iff]
  simp only [decide_eq_true_iff, Bool.and_eq_true, List.mem_map, List.mem_range]
  constructor
  · rintro ⟨a, h, rfl⟩; omega
  · intro h; exact ⟨c - 97, by omega, by omega⟩
/-- a sign is one of a to z, by the texts' order -/
theorem le_sign (a c : Nat) : (!decide ([c] < [a])) = decide (a ≤ c) := by
  rw [Bool.eq_iff_iff]
  simp only [Bool.not_eq_true', decide_eq_false_iff_not, decide_eq_true_iff]
  constructor
  · intro h
    refine Nat.le_of_not_lt fun z => h ?_
    exact List.Lex.rel z
  · intro h z
    cases z with
    | rel z => omega
    | cons z => cases z
/-! short words -/
structure Sm (n : Nat) (w : Str) : Prop where
  len : w.length ≤ n
  asc : ∀ c ∈ cl w, c < 128
theorem Sm.mono {m n : Nat} {w : Str} (h : Sm m w) (e : m ≤ n) : Sm n w := ⟨Nat.le_trans h.len e, h.asc⟩
theorem Sm.wd {n : Nat} {w : Str} (h : Sm n w) (e : n ≤ 100000) : Wd w := ⟨Nat.le_trans h.len e, h.asc⟩
theorem Sm.app {m n : Nat} {w u : Str} (h : Sm m w) (k : Sm n u) : Sm (m + n) (w ++ u) := by
  refine ⟨?_, fun c hc => ?_⟩
  · rw [TL.len_tl, TL.tl_append, List.length_append, ← TL.len_tl, ← TL.len_tl]
    have := h.len; have := k.len; omega
  · rw [show cl (w ++ u) = cl w ++ cl u from TL.tl_append w u] at hc
    rcases List.mem_append.mp hc with hc | hc
    · exact h.asc c hc
    · exact k.asc c hc
def smB (n : Nat) (w : Str) : Bool := decide (w.length ≤ n) && (cl w).all fun c => decide (c < 128)
theorem sm_by {n : Nat} {w : Str} (h : smB n w = true) : Sm n w := by
  unfold smB at h
  simp only [Bool.and_eq_true, decide_eq_true_iff, List.all_eq_true] at h
  exact ⟨h.1, h.2⟩
def SmV (n : Nat) (v : V) : Prop := ∃ w, v = .str w ∧ Sm n w
theorem sm_sign {c : Nat} (h : c < 128) : Sm 1 ⟨#[c]⟩ := ⟨Nat.le_refl _, fun e he => by
  have : e = c := by simpa using he
  omega⟩
end Lw
set_option Elab.async false
set_option linter.all false
set_option maxRecDepth 100000
set_option maxHeartbeats 4000000
/-! data of texts, ints and tuples, as keys; lists of them -/
namespace Lw
open PySem PySem.Spec PyProof.Rows L2 Gx Sn
/-- the tuples stay -/
structure Tk (H H' : Hp) : Prop where
  t : ∀ a xs, H a = some (.tup xs) → H' a = some (.tup xs)
  f : ∀ a o xs, H a = some (.frz o (.tup xs)) → H' a = some (.frz o (.tup xs))
theorem Tk.refl (H : Hp) : Tk H H := ⟨fun _ _ h => h, fun _ _ _ h => h⟩
theorem Tk.trans {H H1 H2 : Hp} (a : Tk H H1) (b : Tk H1 H2) : Tk H H2 := ⟨fun c xs h => b.t c xs (a.t c xs h), fun c o xs h => b.f c o xs (a.f c o xs h)⟩
theorem Tk.of_xt {H H' : Hp} (x : Xt H H') : Tk H H' := ⟨fun a xs h => x.keep a _ h fun _ => nofun, fun a o xs h => x.keep a _ h fun _ => nofun⟩
theorem Tk.of_xd {H H' : Hp} {d : Addr} (hd : Dr H d) (x : Xd d H H') : Tk H H' := by
  obtain ⟨ns, e⟩ := hd
  refine ⟨fun a xs h => x.keep a _ (fun z => ?_) h fun _ => nofun, fun a o xs h => x.keep a _ (fun z => ?_) h fun _ => nofun⟩ <;> (rw [z, e] at h; cases h)
theorem Tk.new {H : Hp} {p : Addr} {o : HO} (h : H p = none) : Tk H (upd H p o) := .of_xt (Xt.new h)
/-- a list stored anew -/
theorem Tk.lst {H : Hp} {q : Addr} {l : List V} {o : HO} (h : H q = some (.lst l)) : Tk H (upd H q o) := by
  refine ⟨fun a xs e => ?_, fun a u xs e => ?_⟩ <;> (rw [upd_ne (fun z => by rw [z, h] at e; cases e)]; exact e)
theorem Tk.sqT {K : PySem.W.Frag} {H H' : Hp} (x : Tk H H') {a : Addr} {xs : List V} (h : SqT K H a xs) : SqT K H' a xs := by
  rcases h with (h | ⟨o, h⟩) | h
  · exact .inl (.inl (x.t a xs h))
  · exact .inl (.inr ⟨o, x.f a o xs h⟩)
  · exact .inr h
mutual
theorem nkV_tk {K : PySem.W.Frag} {H H' : Hp} (x : Tk H H') : ∀ (k : NestedKey) (v : V), NkV K H k v → NkV K H' k v
  | .none, _, h => by unfold NkV at h ⊢; exact h
  | .num _, _, h => by unfold NkV at h ⊢; exact h
  | .text _, _, h => by unfold NkV at h ⊢; exact h
  | .tup ks, _, h => by
    unfold NkV at h ⊢
    obtain ⟨a, xs, e, hs, ha⟩ := h
    exact ⟨a, xs, e, x.sqT hs, nkA_tk x ks xs ha⟩
theorem nkA_tk {K : PySem.W.Frag} {H H' : Hp} (x : Tk H H') : ∀ (ks : List NestedKey) (xs : List V), NkA K H ks xs → NkA K H' ks xs
  | [], _, h => by unfold NkA at h ⊢; exact h
  | k :: ks, _, h => by
    unfold NkA at h ⊢
    obtain ⟨y, r, e, h1, h2⟩ := h
    exact ⟨y, r, e, nkV_tk x k y h1, nkA_tk x ks r h2⟩
end
section
variable {K : PySem.W.Frag} {H : Hp}
theorem nkA_len : ∀ {ks : List NestedKey} {xs : List V}, NkA K H ks xs → xs.length = ks.length
  | [], _, h => by unfold NkA at h; rw [h]; rfl
  | k :: ks, _, h => by
    unfold NkA at h
    obtain ⟨y, r, rfl, _, h2⟩ := h
    rw [List.length_cons, List.length_cons, nkA_len h2]
theorem nkA_nil : NkA K H [] [] := by unfold NkA; rfl
theorem nkA_cons {k : NestedKey} {ks : List NestedKey} {v : V} {vs : List V} (h : NkV K H k v) (hs : NkA K H ks vs) : NkA K H (k :: ks) (v :: vs) := by unfold NkA; exact ⟨v, vs, rfl, h, hs⟩
theorem nkA_app : ∀ {ks ls : List NestedKey} {xs ys : List V}, NkA K H ks xs → NkA K H ls ys → NkA K H (ks ++ ls) (xs ++ ys)
  | [], _, _, _, h, h' => by unfold NkA at h; rw [h]; exact h'
  | k :: ks, _, _, _, h, h' => by
    unfold NkA at h
    obtain ⟨y, r, rfl, h1, h2⟩ := h
    exact nkA_cons h1 (nkA_app h2 h')
theorem nkA_at : ∀ {ks : List NestedKey} {xs : List V}, NkA K H ks xs → ∀ {i : Nat} {v : V}, xs[i]? = some v → ∃ k, ks[i]? = some k ∧ NkV K H k v
  | [], _, h, i, v, e => by unfold NkA at h; rw [h] at e; cases e
  | k :: ks, _, h, i, v, e => by
    unfold NkA at h
    obtain ⟨y, r, rfl, h1, h2⟩ := h
    cases i with
    | zero => cases e; exact ⟨k, rfl, h1⟩
    | succ i => exact nkA_at h2 e
theorem nkA_take : ∀ {ks : List NestedKey} {xs : List V} (n : Nat), NkA K H ks xs → NkA K H (ks.take n) (xs.take n)
  | [], _, n, h => by unfold NkA at h; rw [h]; simp; exact nkA_nil
  | k :: ks, _, 0, h => by simp; exact nkA_nil
  | k :: ks, _, n + 1, h => by
    unfold NkA at h
    obtain ⟨y, r, rfl, h1, h2⟩ := h
    exact nkA_cons h1 (nkA_take n h2)
theorem nkA_texts : ∀ l : List Str, NkA K H (l.map .text) (l.map V.str)
  | [] => nkA_nil
  | x :: l => nkA_cons (by unfold NkV; rfl) (nkA_texts l)
theorem nkA_texts_inv : ∀ {l : List Str} {xs : List V}, NkA K H (l.map .text) xs → xs = l.map V.str
  | [], _, h => by unfold NkA at h; exact h
  | x :: l, _, h => by
    unfold NkA at h
    obtain ⟨y, r, rfl, h1, h2⟩ := h
    unfold NkV at h1
    rw [h1, nkA_texts_inv h2]
    rfl
theorem nk_tup {ks : List NestedKey} {a : Addr} {xs : List V} (h : H a = some (.tup xs)) (ha : NkA K H ks xs) : NkV K H (.tup ks) (.ref a) := by
  unfold NkV
  exact ⟨a, xs, rfl, .inl (.inl h), ha⟩
theorem nk_tup_inv {ks : List NestedKey} {v : V} (h : NkV K H (.tup ks) v) : ∃ a xs, v = .ref a ∧ SqT K H a xs ∧ NkA K H ks xs := by unfold NkV at h; exact h
theorem nk_text {x : Str} : NkV K H (.text x) (.str x) := by unfold NkV; rfl
theorem nk_num {i : Int} : NkV K H (.num i) (.int i) := by unfold NkV; rfl
/-- a pair of a text and an int -/
def rk (r : Str × Int) : NestedKey := .tup [.text r.1, .num r.2]
/-- a fact: a name and its tuple of texts -/
def fk (f : Str × List Str) : NestedKey := .tup [.text f.1, .tup (f.2.map .text)]
theorem rk_inv {r : Str × Int} {v : V} (h : NkV K H (rk r) v) : ∃ a, v = .ref a ∧ SqT K H a [.str r.1, .int r.2] := by
  obtain ⟨a, xs, rfl, hs, ha⟩ := nk_tup_inv h
  unfold NkA at ha
  obtain ⟨x, q, rfl, h1, h2⟩ := ha
  unfold NkA at h2
  obtain ⟨y, z, rfl, h3, h4⟩ := h2
  unfold NkA at h4
  unfold NkV at h1 h3
  subst h1 h3 h4
  exact ⟨a, rfl, hs⟩
theorem fk_inv {f : Str × List Str} {v : V} (h : NkV K H (fk f) v) : ∃ a b, v = .ref a ∧ SqT K H a [.str f.1, .ref b] ∧ SqT K H b (f.2.map V.str) := by
  obtain ⟨a, xs, rfl, hs, ha⟩ := nk_tup_inv h
  unfold NkA at ha
  obtain ⟨x, q, rfl, h1, h2⟩ := ha
  unfold NkA at h2
  obtain ⟨y, z, rfl, h3, h4⟩ := h2
  unfold NkA at h4
  unfold NkV at h1
  subst h1 h4
  obtain ⟨b, ys, rfl, hb, hy⟩ := nk_tup_inv h3
  rw [nkA_texts_inv hy] at hb
  exact ⟨a, b, rfl, hs, hb⟩
theorem rk_inj {r q : Str × Int} (h : rk r = rk q) : r = q := by
  unfold rk at h
  injection h with h
  simp at h
  exact Prod.ext h.1 h.2
theorem text_inj : ∀ {l m : List Str}, l.map NestedKey.text = m.map NestedKey.text → l = m
  | [], [], _ => rfl
  | [], _ :: _, h => by simp at h
  | _ :: _, [], h => by simp at h
  | x :: l, y :: m, h => by
    simp at h
    rw [h.1, text_inj (l := l) (m := m) (by simpa using h.2)]
theorem fk_inj {f g : Str × List Str} (h : fk f = fk g) : f = g := by
  unfold fk at h
  injection h with h
  simp only [List.cons.injEq, NestedKey.text.injEq, NestedKey.tup.injEq, and_true] at h
  exact Prod.ext h.1 (text_inj h.2)
theorem rk_depth (r : Str × Int) : (rk r).depth ≤ 8 := by simp [rk, NestedKey.depth, NestedKey.depthAll]
theorem dep_texts : ∀ l : List Str, NestedKey.depthAll (l.map .text) = 0
  | [] => by simp [NestedKey.depthAll]
  | x :: l => by simp [NestedKey.depthAll, NestedKey.depth, dep_texts l]
theorem fk_depth (f : Str × List Str) : (fk f).depth ≤ 8 := by simp [fk, NestedKey.depth, NestedKey.depthAll, dep_texts]
end
/-- a list of such data -/
def KsAt (K : PySem.W.Frag) (H : Hp) (q : Addr) (ks : List NestedKey) : Prop := ∃ vs, H q = some (.lst vs) ∧ NkA K H ks vs
/-- as the set's rule asks for them -/
theorem refs_of_keys {K : PySem.W.Frag} {H : Hp} {α : Type} (f : α → NestedKey) (hf : ∀ x, ∃ ks, f x = .tup ks) (hd : ∀ x, (f x).depth ≤ 8) : ∀ (l : List α) (vs : List V), NkA K H (l.map f) vs →
    ∃ ps : List (Addr × NestedKey), vs = ps.map (fun p => V.ref p.1) ∧ (∀ p ∈ ps, KeyAt K H p) ∧ ps.map (·.2) = l.map f ∧ ps.length = l.length
  | [], vs, h => by
    unfold NkA at h
    exact ⟨[], h, (fun p hp => by cases hp), rfl, rfl⟩
  | x :: l, vs, h => by
    rw [List.map_cons] at h
    unfold NkA at h
    obtain ⟨y, r, rfl, h1, h2⟩ := h
    obtain ⟨ps, rfl, h3, h4, h5⟩ := refs_of_keys f hf hd l r h2
    obtain ⟨ks, e⟩ := hf x
    rw [e] at h1
    obtain ⟨a, xs, rfl, hs, ha⟩ := nk_tup_inv h1
    refine ⟨(a, f x) :: ps, rfl, fun p hp => ?_, by simp [h4], by simp [h5]⟩
    rcases List.mem_cons.mp hp with rfl | hp
    · exact ⟨by rw [e]; exact h1, hd x⟩
    · exact h3 p hp
end Lw
namespace Lw
open PySem PySem.Spec PyProof.Rows L2 Gx Sn
section
variable {K : PySem.W.Frag} {g : TG} {tt : TT} {te : TE} {σ' : L2.St} {Q : VK} {H : Hp}
/-- all over a list, by a list that goes beside it -/
theorem gx_all_by {α : Type} {a : Addr} {xs : List V} (ks : List α) (p : α → Bool) (hlen : xs.length = ks.length) (hl : SqL K H a xs)
    (hs : ∀ (i : Nat) v k, xs[i]? = some v → ks[i]? = some k → ∀ H' N, Xt H H' → (∀ H2, Xt H H2 → if p k = false then Q (.bl false) H2 else N H2) → gxTurn g tt te σ' false Q v H' N) (h : ∀ H', Xt H H' → Q (.bl (ks.all p)) H') :
    ∃ (W : Nat → Nat → Hp → Prop) (m : Nat), W 0 m H ∧ gxW (Itl K a) g tt te σ' false Q W := by
  refine gx_list (xs := xs) (fun i H' => Xt H H' ∧ (ks.take i).all p = true) ⟨Xt.refl H, rfl⟩ (fun i H' hp => hp.1.sqL hl) (fun i c H' hc hp => ?_) (fun H' hp => ?_)
  · obtain ⟨xt, hp⟩ := hp
    have hi : i < ks.length := by rw [← hlen]; exact (List.getElem?_eq_some_iff.mp hc).1
    have hk := List.getElem?_eq_getElem hi
    refine hs i c _ hc hk H' _ xt fun H2 x2 => ite2 (fun e => ?_) (fun e => ⟨x2, ?_⟩)
    · have q := h H2 x2
      rw [all_false_at hk e] at q
      exact q
    · rw [take_all_succ hk, hp, eq_true_of_ne_false e]
      rfl
  · obtain ⟨xt, hp⟩ := hp
    rw [hlen, List.take_length] at hp
    have q := h H' xt
    rw [hp] at q
    exact q
end
end Lw
namespace Lw
open PySem PySem.Spec PyProof.Rows L2 Gx Sn
section
variable {K : PySem.W.Frag} {g : TG} {tt : TT} {te : TE}
/-- a comprehension over a list, by a list that goes beside it -/
theorem lcf_by {α : Type} {vs : List Nat} {σ : L2.St} {H1 : Hp} {D : Addr} {Qd : Hp → Prop} {a : Addr} {xs : List V} (ks : List α) (p : α → Bool) (f : α → V) (hlen : xs.length = ks.length) (hl : SqL K H1 a xs) (hD : H1 D = none) (hz : ks.length ≤ sizeLine)
    (hs : ∀ (i : Nat) v k, xs[i]? = some v → ks[i]? = some k → ∀ H' (Y : V → Hp → Prop) (N : Hp → Prop), Xt H1 H' → (∀ H2, Xt H' H2 → p k = true → Y (f k) H2) → (∀ H2, Xt H' H2 → p k = false → N H2) →
      g v (wipe σ vs) H' fun σ2 H2 => wipe σ2 vs = wipe σ vs ∧ tt σ2 H2 fun b H3 => if b = true then te σ2 H3 Y else N H3)
    (hd : ∀ H', Xt H1 H' → H' D = some (.lst ((ks.filter p).map f)) → Qd H') :
    ∃ W : Nat → Nat → Hp → Prop, (∃ m, W 0 m (upd H1 D (.lst []))) ∧ ∀ i m H, W i m H →
      ((Itl K a).stop i H ∧ Qd H) ∨ ((Itl K a).go i H ∧ ∃ Nx : Hp → Prop, (∀ H', Nx H' → ∃ m', m' < m ∧ W (i + 1) m' H') ∧ ∀ v H', (Itl K a).yld i H v H' → g v (wipe σ vs) H' fun σ2 H2 => wipe σ2 vs = wipe σ vs ∧ tt σ2 H2 fun b H3 =>
        if b = true then te σ2 H3 fun y H4 => ∃ acc, H4 D = some (.lst acc) ∧ acc.length < sizeLine ∧ Nx (upd H4 D (.lst (acc ++ [y]))) else Nx H3) := by
  refine lc_list (xs := xs) (fun i H' => Xt H1 H' ∧ H' D = some (.lst (((ks.take i).filter p).map f))) ⟨Xt.new hD, upd_same ..⟩ (fun i H' _ hp => hp.1.sqL hl) (fun i c H' hc hp => ?_) (fun H' hp => hd H' hp.1 ?_)
  · obtain ⟨xt, hp⟩ := hp
    have hi : i < ks.length := by rw [← hlen]; exact (List.getElem?_eq_some_iff.mp hc).1
    have hk := List.getElem?_eq_getElem hi
    refine hs i c _ hc hk H' _ _ xt (fun H2 x2 e => ⟨_, x2.lst hp, ?_, (xt.trans x2).mut hD, ?_⟩) (fun H2 x2 e => ⟨xt.trans x2, ?_⟩)
    · rw [List.length_map]
      exact Nat.lt_of_le_of_lt (Nat.le_trans (List.length_filter_le ..) (by rw [List.length_take]; exact Nat.min_le_left ..)) (Nat.lt_of_lt_of_le hi hz)
    · rw [upd_same, List.take_add_one, hk, List.filter_append, List.map_append]
      show _ = some (HO.lst (_ ++ ([ks[i]].filter p).map f))
      rw [List.filter_cons, if_pos e]
      rfl
    · rw [x2.lst hp, List.take_add_one, hk, List.filter_append, List.map_append]
      show _ = some (HO.lst (_ ++ ([ks[i]].filter p).map f))
      rw [List.filter_cons, if_neg (by rw [e]; exact Bool.false_ne_true)]
      show _ = some (HO.lst (_ ++ []))
      rw [List.append_nil]
  · have h2 := hp.2
    rw [hlen, List.take_length] at h2
    exact h2
end
end Lw
namespace Lw
open PySem PySem.Spec PyProof.Rows L2 Gx Sn
/-- lo <= m <= hi -/
theorem rd_chain {tb : TE} {σ : L2.St} {H : Hp} {lo hi m : Int} {Qb : Bool → Hp → Prop} (hb : ∀ Q : VK, Q (.int m) H → tb σ H Q) (q : Qb (decide (lo ≤ m) && decide (m ≤ hi)) H) :
    tTest (tChain (rI0 fun i j => .bl (decide (i ≤ j))) (rI0 fun i j => .bl (decide (i ≤ j))) (tC (.int lo)) tb (tC (.int hi))) σ H Qb := by
  refine hb _ ⟨lo, m, rfl, rfl, _, rfl, ite2 (fun h1 => ⟨m, hi, rfl, rfl, _, rfl, ?_⟩) (fun h1 => ⟨_, rfl, ?_⟩)⟩
  · rw [h1, Bool.true_and] at q
    exact q
  · rw [eq_false_of_ne_true h1, Bool.false_and] at q
    exact q
/-- as a value -/
theorem rd_chainV {tb : TE} {σ : L2.St} {H : Hp} {lo hi m : Int} {Q : VK} (hb : ∀ Q : VK, Q (.int m) H → tb σ H Q) (q : Q (.bl (decide (lo ≤ m) && decide (m ≤ hi))) H) :
    tChain (rI0 fun i j => .bl (decide (i ≤ j))) (rI0 fun i j => .bl (decide (i ≤ j))) (tC (.int lo)) tb (tC (.int hi)) σ H Q := by
  refine hb _ ⟨lo, m, rfl, rfl, _, rfl, ite2 (fun h1 => ⟨m, hi, rfl, rfl, ?_⟩) (fun h1 => ?_)⟩
  · rw [h1, Bool.true_and] at q
    exact q
  · rw [eq_false_of_ne_true h1, Bool.false_and] at q
    exact q
theorem rd_lenL {K : PySem.W.Frag} {σ : L2.St} {H : Hp} {i : Nat} {q : Addr} {xs : List V} (hi : σ[i]? = some (some (.ref q))) (h : SqL K H q xs) (Q : VK) (k : Q (.int xs.length) H) : tCB (rLenK K) (tCons (tVar i) tNil) σ H Q := ⟨_, hi, q, xs, rfl, .inl h, k⟩
end Lw
set_option Elab.async false
set_option linter.all false
set_option maxRecDepth 100000
set_option maxHeartbeats 4000000
namespace K0
open PySem PySem.Spec PyProof.Rows L2 Gx
open Lw Sn

/-! ### what a world must be -/
theorem in_strs (c : Str) : ∀ cs : List Str, inV (.str c) (cs.map V.str) = decide (c ∈ cs)
  | [] => rfl
  | x :: cs => by
    have h := in_strs c cs
    unfold inV at h ⊢
    rw [List.map_cons, List.any_cons, h]
    show (eqV (.str x) (.str c) || decide (c ∈ cs)) = decide (c ∈ x :: cs)
    have e : eqV (.str x) (.str c) = decide (x = c) := by first | rfl | (simp [eqV]; done) | exact dec_str
    rw [e, Bool.eq_iff_iff, Bool.or_eq_true, decide_eq_true_iff, decide_eq_true_iff, decide_eq_true_iff, List.mem_cons]
    exact ⟨Or.imp Eq.symm id, Or.imp Eq.symm id⟩
theorem flat_strs (cs : List Str) : (cs.map V.str).all flatV = true := by
  rw [List.all_eq_true]
  intro v hv
  obtain ⟨x, _, rfl⟩ := List.mem_map.mp hv
  rfl
def aboutB (f : Str × List Str) (cs : List Str) : Bool := !f.2.isEmpty && f.2.all fun c => decide (c ∈ cs)
def spName (a : Ads) : Sp := fun vs H Q _ => ∃ w : Str, vs = [.str w] ∧ Wd w ∧ GxR.TabG H a.P_is_name ∧ ∀ H1, Xt H H1 → Q (.bl (nameB w)) H1
def spLname : Sp := fun vs H Q _ => ∃ w : Str, vs = [.str w] ∧ Wd w ∧ ∀ H1, Xt H H1 → Q (.bl (nameB w)) H1
def strIn (cs : List Str) : V → Bool
  | .str c => decide (c ∈ cs)
  | _ => false
theorem all_strIn (cs : List Str) : ∀ l : List Str, (l.map V.str).all (strIn cs) = l.all fun c => decide (c ∈ cs)
  | [] => rfl
  | x :: l => by rw [List.map_cons, List.all_cons, List.all_cons, all_strIn cs l]; rfl
def spAbout (K : PySem.W.Frag) (a : Ads) : Sp := fun vs H Q _ => ∃ (v : V) (q : Addr) (f : Str × List Str) (cs : List Str), vs = [v, .ref q] ∧ NkV K H (fk f) v ∧ SqL K H q (cs.map V.str) ∧ GxR.TabG H a.P_is_about ∧ ∀ H1, Xt H H1 → Q (.bl (aboutB f cs)) H1
section
variable {P : Program} {w : World} {K : PySem.W.Frag} {mg : Str → Option Value} {base : Heap} {a : Ads}
theorem ok_is_name (T : Txt K mg a) (B : TabT base mg a) : FnOk P w K mg base CX0 2 a.f_is_name a.fd_is_name ["word"] (spName a) := by
  refine T.F_is_name.ok sc_is_name (fun vs H Q E h => ?_) (fun A outer s H vs Q E hr h => ?_)
  · obtain ⟨x, rfl, _⟩ := h
    rfl
  · obtain ⟨x, rfl, hx, hT, q⟩ := h
    refine ⟨_, (pss_one (ps_ret (pe_and (pe_chain op_le op_le pe_int (pe_callB call_len_str rfl T.len (by decide +kernel) (pa_cons (pv 0) pa_nil)) pe_int) (pe_one (Gx.pe_allG (own := ["letter"]) (caps := []) (cix := []) hr rfl T.all B.tab_is_name rfl (Gx.gxs_by (sc := defScope s_is_name) (N := ["word"]) (by decide +kernel)) (pi_str (pv 0)) (fun A s H C cl code bi fp pn hr' => (pg_name (i := 0) (Gx.ndw (own := ["letter"]) (caps := []) (by decide +kernel)) rfl (.inl rfl))) (fun A s H C cl code bi fp pn hr' => pts_nil) (fun A s H C cl code bi fp pn hr' => (pe_cmpR op_in_sign (pv 0) (Gx.pe_gcon rfl T.m_LETTERS) rfl))))))), ?_⟩
    refine ⟨_, rfl, x, rfl, hx.big, 1, x.length, rfl, rfl, _, rfl, ite2 (fun h1 => ?_) (fun h1 => ?_)⟩
    · refine ⟨x.length, 12, rfl, rfl, _, rfl, ite2 (fun h2 => ?_) (fun h2 => ?_)⟩
      · refine ⟨_, rfl, x, rfl, hT, fun H2 t2 => ?_⟩
        have x2 : Xt H H2 := Xt.tabbed hT t2
        refine gx_all_str (fun c => decide (c ∈ letters)) (fun c H' N xt k => ⟨wk_set rfl, .str ⟨#[c]⟩, rfl, c, _, rfl, rfl, _, rfl, k _ xt⟩) fun H' xt => ?_
        have q2 := q _ (x2.trans xt)
        unfold nameB lenB at q2
        rw [h1, show decide ((x.length : Int) ≤ ((12 : Nat) : Int)) = true from h2] at q2
        exact q2
      · have q2 := q _ (Xt.refl H)
        unfold nameB lenB at q2
        rw [show decide ((x.length : Int) ≤ ((12 : Nat) : Int)) = false from eq_false_of_ne_true h2, Bool.and_false] at q2
        exact q2
    · have q2 := q _ (Xt.refl H)
      unfold nameB lenB at q2
      rw [eq_false_of_ne_true h1] at q2
      exact ⟨false, rfl, iteF q2⟩

theorem ok__law_is_name (T : Txt K mg a) (B : TabT base mg a) : FnOk P w K mg base CX0 1 a.f__law_is_name a.fd__law_is_name ["word"] (spLname) := by
  refine T.F__law_is_name.ok sc__law_is_name (fun vs H Q E h => ?_) (fun A outer s H vs Q E hr h => ?_)
  · obtain ⟨x, rfl, _⟩ := h
    rfl
  · obtain ⟨x, rfl, hx, q⟩ := h
    refine ⟨_, (pss_one (ps_ret (pe_and (pe_chain op_le op_le pe_int (pe_callB call_len_str rfl T.len (by decide +kernel) (pa_cons (pv 0) pa_nil)) pe_int) (pe_one (pe_cmpR (Gx.op_eqDK (K := K) rfl hr.units) (pe_lc (own := [("sign", 1)]) rfl sc__law_is_name.nd (pi_str (pv 0)) (blkOk_by (own := [("sign", 1)]) (N := ["word", "sign"]) (sc := defScope s__law_is_name) (by decide +kernel)) (fun _ _ _ _ _ => (pg_name (i := 1) sc__law_is_name.nd rfl (.inl rfl))) (fun _ _ _ _ _ => (pts_one (pt_not (pt_chain op_le_str op_le_str pe_str (pv 1) pe_str)))) (fun _ _ _ _ _ => (pv 1))) (pe_lst pa_nil) (nomark _)))))), ?_⟩
    refine ⟨_, rfl, x, rfl, hx.big, 1, x.length, rfl, rfl, _, rfl, ite2 (fun h1 => ?_) (fun h1 => ?_)⟩
    · have h1' : (1 : Int) ≤ (x.length : Int) := by simpa using h1
      refine ⟨x.length, 12, rfl, rfl, _, rfl, ite2 (fun h2 => ?_) (fun h2 => ?_)⟩
      · have h2' : (x.length : Int) ≤ 12 := by simpa using h2
        refine ⟨_, rfl, x, rfl, fun D hD => lcf_str (fun c => !decide (c ∈ letters)) (fun c => .str ⟨#[c]⟩) hD hx.big (fun c hc H' Y N xt k1 k2 => ?_) (fun H' xt hl => ?_)⟩
        · refine ⟨rfl, ?_⟩
          have e1 : (!decide ((⟨#[c]⟩ : Str).cps.toList < (Str.ofString "a").cps.toList)) = decide (97 ≤ c) := by
            rw [show (Str.ofString "a").cps.toList = [97] by decide]
            exact le_sign 97 c
          have e2 : (!decide ((Str.ofString "z").cps.toList < (⟨#[c]⟩ : Str).cps.toList)) = decide (c ≤ 122) := by
            rw [show (Str.ofString "z").cps.toList = [122] by decide]
            exact le_sign c 122
          refine ⟨_, rfl, _, _, rfl, rfl, _, rfl, ?_⟩
          rw [e1]
          refine ite2 (fun h3 => ⟨_, _, rfl, rfl, _, rfl, ?_⟩) (fun h3 => ⟨_, rfl, ?_⟩)
          · have e3 : decide (c ∈ letters) = decide (c ≤ 122) := by rw [in_letters, h3, Bool.true_and]
            rw [e2, ← e3]
            exact ite2 (fun e => ⟨_, rfl, k1 _ (Xt.refl _) e⟩) (fun e => k2 _ (Xt.refl _) (eq_false_of_ne_true e))
          · have e3 : decide (c ∈ letters) = false := by rw [in_letters, eq_false_of_ne_true h3, Bool.false_and]
            exact iteT ⟨_, rfl, k1 _ (Xt.refl _) (by rw [e3]; rfl)⟩
        · refine ⟨Nat.zero_le _, fun l hl2 => ⟨_, _, .lst (.inl (.inl ((Xt.new hl2).lst hl))) (strsD _), .lst (.inl (.inl (upd_same ..))) .nil, shp_signs (fun c hc => hx.asc c (List.mem_filter.mp hc).1), shp_nil, ?_⟩⟩
          refine val ?_ (q _ (xt.trans (Xt.new hl2)))
          unfold nameB lenB
          rw [eqv_nil, fil_all (x.cps.toList) (fun c => decide (c ∈ letters))]
          simp [h1', h2']
      · have h2' : ¬ ((x.length : Int) ≤ 12) := by simpa using h2
        exact val (by simp [nameB, lenB, h2']) (q _ (Xt.refl H))
    · have h1' : ¬ ((1 : Int) ≤ (x.length : Int)) := by simpa using h1
      exact ⟨false, rfl, iteF (val (by simp [nameB, lenB, h1']) (q _ (Xt.refl H)))⟩

theorem ok_is_about (T : Txt K mg a) (B : TabT base mg a) : FnOk P w K mg base CX0 2 a.f_is_about a.fd_is_about ["fact", "constants"] (spAbout K a) := by
  refine T.F_is_about.ok sc_is_about (fun vs H Q E h => ?_) (fun A outer s H vs Q E hr h => ?_)
  · obtain ⟨v, q, f, cs, rfl, _⟩ := h
    rfl
  · obtain ⟨v, q, f, cs, rfl, hf, hq, hT, k⟩ := h
    obtain ⟨t, b, rfl, ht, hb⟩ := fk_inv hf
    refine ⟨_, (pss_cons (ps_set (i := 2) sc_is_about.nd rfl (.inl rfl) (pe_ix (Gx.ix_tupK (K := K) rfl) (pv 0) pe_int (fun _ _ => rfl)))
 (pss_one (ps_ret (pe_and (pe_cmpR op_gt (pe_callB (Gx.call_len_seqK (K := K) rfl) rfl T.len (by decide +kernel) (pa_cons (pv 2) pa_nil)) pe_int (nomark _)) (pe_one (Gx.pe_allG (own := ["constant"]) (caps := ["constants"]) (cix := [1]) hr rfl T.all B.tab_is_about rfl (Gx.gxs_by (sc := defScope s_is_about) (N := ["fact", "constants", "row"]) (by decide +kernel)) (Gx.pi_tupK (K := K) rfl (pv 2)) (fun A s H C cl code bi fp pn hr' => (pg_name (i := 0) (Gx.ndw (own := ["constant"]) (caps := ["constants"]) (by decide +kernel)) rfl (.inl rfl))) (fun A s H C cl code bi fp pn hr' => pts_nil) (fun A s H C cl code bi fp pn hr' => (pe_cmpR (Gx.op_in_seqK (K := K) rfl) (pv 0) (pv 1) (by rfl))))))))), ?_⟩
    refine ⟨_, rfl, t, _, 1, .ref b, rfl, rfl, ht, atI_nat (j := 1) rfl, ?_⟩
    refine ⟨_, rfl, b, _, rfl, .inr hb, _, _, rfl, rfl, _, rfl, ite2 (fun h1 => ?_) (fun h1 => ?_)⟩
    · have h1' : f.2.isEmpty = false := by
        have h : (0 : Int) < (((f.2.map V.str).length : Nat) : Int) := of_decide_eq_true h1
        rw [List.length_map] at h
        cases e : f.2 with
        | nil => rw [e] at h; simp at h
        | cons _ _ => rfl
      refine ⟨_, rfl, b, rfl, ⟨_, hb⟩, hT, fun H2 t2 => ?_⟩
      have x2 : Xt H H2 := Xt.tabbed hT t2
      refine gx_all_tup (strIn cs) (x2.sqT hb) (fun v hv H' N xt kk => ?_) fun H' xt => ?_
      · obtain ⟨c, hc, rfl⟩ := List.mem_map.mp hv
        refine ⟨wk_set rfl, _, rfl, _, rfl, q, _, rfl, .inl ((x2.trans xt).sqL hq), rfl, flat_strs cs, _, rfl, ?_⟩
        rw [in_strs]
        exact kk _ xt
      · rw [all_strIn]
        exact val (by unfold aboutB; rw [h1']; rfl) (k _ (x2.trans xt))
    · have h1' : f.2.isEmpty = true := by
        cases e : f.2 with
        | nil => rfl
        | cons x y =>
          exfalso
          refine h1 (decide_eq_true ?_)
          rw [List.length_map, e]
          simp only [List.length_cons]
          omega
      exact val (by unfold aboutB; rw [h1']; rfl) (k _ (Xt.refl H))

/-- world_fault -/
def worldF (cs : List Str) (fs : List (Str × List Str)) : Option Str :=
  if !lenB 6 cs.length then some "constants" else if !cs.all nameB then some "name" else if !decide cs.Nodup then some "twice" else if !fs.all (fun f => aboutB f cs) then some "fact" else if !decide fs.Nodup then some "again" else none
def optV : Option Str → V
  | none => .non
  | some r => .str r
def isN (v : V) : Bool := match v with | .str w => nameB w | _ => false
theorem all_isN : ∀ l : List Str, (l.map V.str).all isN = l.all nameB
  | [] => rfl
  | x :: l => by rw [List.map_cons, List.all_cons, List.all_cons, all_isN l]; rfl
theorem fk_nodup {fs : List (Str × List Str)} : (fs.map fk).Nodup ↔ fs.Nodup := ⟨fun h => List.Pairwise.of_map fk (fun _ _ hne e => hne (congrArg fk e)) h, fun h => List.pairwise_map.mpr (List.Pairwise.imp (fun hne e => hne (fk_inj e)) h)⟩
/-- a list of constants and one of facts -/
structure CsFs (K : PySem.W.Frag) (H : Hp) (q p : Addr) (cs : List Str) (fs : List (Str × List Str)) (vs : List V) : Prop where
  c : SqL K H q (cs.map V.str)
  w : ∀ x ∈ cs, Wd x
  f : SqL K H p vs
  k : NkA K H (fs.map fk) vs
  n : cs.length ≤ 4000
theorem CsFs.xt {K : PySem.W.Frag} {H H' : Hp} {q p : Addr} {cs : List Str} {fs : List (Str × List Str)} {vs : List V} (h : CsFs K H q p cs fs vs) (x : Xt H H') : CsFs K H' q p cs fs vs := ⟨x.sqL h.c, h.w, x.sqL h.f, nkA_tk (.of_xt x) _ _ h.k, h.n⟩
def spWf (K : PySem.W.Frag) (a : Ads) : Sp := fun vs H Q _ => ∃ (q p : Addr) (cs : List Str) (fs : List (Str × List Str)) (us : List V), vs = [.ref q, .ref p] ∧ CsFs K H q p cs fs us ∧ fs.length ≤ 300 ∧ GxR.TabG H a.P_is_name ∧ GxR.TabG H a.P_is_about ∧ GxR.TabG H a.P_world_fault ∧ ∀ H1, Xt H H1 → Q (optV (worldF cs fs)) H1
theorem valO {Q : VK} {b c : Option Str} {H : Hp} (e : b = c) (q : Q (optV b) H) : Q (optV c) H := e ▸ q
theorem ok_world_fault (T : Txt K mg a) (B : TabT base mg a) (G_is_name : FnOk P w K mg base CX0 2 a.f_is_name a.fd_is_name ["word"] (spName a)) (G_is_about : FnOk P w K mg base CX0 2 a.f_is_about a.fd_is_about ["fact", "constants"] (spAbout K a)) : FnOk P w K mg base CX0 4 a.f_world_fault a.fd_world_fault ["constants", "facts"] (spWf K a) := by
  refine T.F_world_fault.ok sc_world_fault (fun vs H Q E h => ?_) (fun A outer s H vs Q E hr h => ?_)
  · obtain ⟨q, p, cs, fs, us, rfl, _⟩ := h
    rfl
  · obtain ⟨q, p, cs, fs, us, rfl, D, hn, t1, t2, t3, k⟩ := h
    refine ⟨_, (pss_cons (ps_if (pt_not (pt_chain op_le op_le pe_int (pe_callB (Gx.call_len_seqK (K := K) rfl) rfl T.len (by decide +kernel) (pa_cons (pv 0) pa_nil)) pe_int))
  (pss_one (ps_ret pe_str))
  pss_nil)
 (pss_cons (ps_if (pt_not (pt_val (Gx.pe_allG (own := ["constant"]) (caps := []) (cix := []) hr rfl T.all B.tab_world_fault rfl (Gx.gxs_by (sc := defScope s_world_fault) (N := ["constants", "facts"]) (by decide +kernel)) (Gx.pi_listK (K := K) rfl (pv 0)) (fun A s H C cl code bi fp pn hr' => (pg_name (i := 0) (Gx.ndw (own := ["constant"]) (caps := []) (by decide +kernel)) rfl (.inl rfl))) (fun A s H C cl code bi fp pn hr' => pts_nil) (fun A s H C cl code bi fp pn hr' => (pe_call G_is_name (hr'.mono (by decide)) rfl T.g_is_name T.F_is_name.kp T.b_is_name .nil pass0 (pa_cons (pv 0) pa_nil))))))
  (pss_one (ps_ret pe_str))
  pss_nil)
 (pss_cons (ps_if (pt_cmpR op_lt (Sn.pe_lenSetN (K := K) rfl rfl hr.units rfl T.len rfl T.set (pv 0)) (pe_callB (Gx.call_len_seqK (K := K) rfl) rfl T.len (by decide +kernel) (pa_cons (pv 0) pa_nil)) (nomark _))
  (pss_one (ps_ret pe_str))
  pss_nil)
 (pss_cons (ps_if (pt_not (pt_val (Gx.pe_allG (own := ["fact"]) (caps := ["constants"]) (cix := [0]) hr rfl T.all B.tab_world_fault rfl (Gx.gxs_by (sc := defScope s_world_fault) (N := ["constants", "facts"]) (by decide +kernel)) (Gx.pi_listK (K := K) rfl (pv 1)) (fun A s H C cl code bi fp pn hr' => (pg_name (i := 0) (Gx.ndw (own := ["fact"]) (caps := ["constants"]) (by decide +kernel)) rfl (.inl rfl))) (fun A s H C cl code bi fp pn hr' => pts_nil) (fun A s H C cl code bi fp pn hr' => (pe_call G_is_about (hr'.mono (by decide)) rfl T.g_is_about T.F_is_about.kp T.b_is_about .nil pass0 (pa_cons (pv 0) (pa_cons (pv 1) pa_nil)))))))
  (pss_one (ps_ret pe_str))
  pss_nil)
 (pss_cons (ps_if (pt_cmpR op_lt (Sn.pe_lenSetN (K := K) rfl rfl hr.units rfl T.len rfl T.set (pv 1)) (pe_callB (Gx.call_len_seqK (K := K) rfl) rfl T.len (by decide +kernel) (pa_cons (pv 1) pa_nil)) (nomark _))
  (pss_one (ps_ret pe_str))
  pss_nil)
 (pss_one (ps_ret pe_non))))))), ?_⟩
    have hus : us.length = fs.length := by rw [nkA_len D.k, List.length_map]
    refine ⟨_, rfl, q, _, rfl, .inl D.c, 1, _, rfl, rfl, _, rfl, ?_⟩
    rw [List.length_map]
    refine ite2 (fun h1 => ⟨_, _, rfl, rfl, _, rfl, ite2 (fun h2 => ?_) (fun h2 => ?_)⟩) (fun h1 => ⟨_, rfl, iteT ?_⟩)
    · have h2' : ¬ ((cs.length : Int) ≤ 6) := by simpa using h2
      exact valO (by unfold worldF; rw [show lenB 6 cs.length = false by simp [lenB, h2']] <;> rfl) (k _ (Xt.refl H))
    · have h1' : (1 : Int) ≤ (cs.length : Int) := by simpa using h1
      have h2' : (cs.length : Int) ≤ 6 := by simpa using h2
      have hL : lenB 6 cs.length = true := by simp [lenB, h1', h2']
      refine ⟨_, rfl, q, rfl, ⟨_, D.c⟩, t3, fun H2 y2 => ?_⟩
      have x2 : Xt H H2 := Xt.tabbed t3 y2
      refine gx_all_list isN ((D.xt x2).c) (fun v hv H' N xt kk => ?_) (fun H3 y3 => ?_)
      · obtain ⟨z, hz, rfl⟩ := List.mem_map.mp hv
        exact ⟨wk_set rfl, _, rfl, z, rfl, D.w z hz, (x2.trans xt).tabG t1, fun H6 y6 => ⟨_, rfl, kk H6 (xt.trans y6)⟩⟩
      · have x3 := x2.trans y3
        have D3 := D.xt x3
        rw [all_isN]
        refine ⟨_, rfl, ite2 (fun h3 => ?_) (fun h3 => ?_)⟩
        · have h3' : cs.all nameB = false := by simpa using h3
          exact valO (by unfold worldF; rw [hL, h3'] <;> rfl) (k _ x3)
        · have h3' : cs.all nameB = true := by
            cases e : cs.all nameB
            · rw [e] at h3; exact absurd rfl h3
            · rfl
          refine ⟨_, rfl, q, rfl, .inr ⟨cs, D3.c, D.n, fun n hn1 hn2 => ⟨_, rfl, q, _, rfl, .inl D3.c, _, _, rfl, rfl, _, rfl, ?_⟩⟩⟩
          rw [List.length_map]
          refine ite2 (fun h4 => ?_) (fun h4 => ?_)
          · have h4' : ¬ cs.Nodup := fun z => by
              have h : ((n : Int) < (cs.length : Int)) := of_decide_eq_true h4
              have := hn2.mpr z
              omega
            exact valO (by unfold worldF; rw [hL, h3', decide_eq_false h4'] <;> rfl) (k _ x3)
          · have h4' : cs.Nodup := hn2.mp (by
              have h : ¬ ((n : Int) < (cs.length : Int)) := fun z => h4 (decide_eq_true z)
              omega)
            refine ⟨_, rfl, p, rfl, ⟨_, D3.f⟩, x3.tabG t3, fun H4 y4 => ?_⟩
            have x4 := x3.trans (Xt.tabbed (x3.tabG t3) y4)
            refine gx_all_by fs (fun f => aboutB f cs) hus ((D.xt x4).f) (fun i v f hv hf H' N xt kk => ?_) (fun H5 y5 => ?_)
            · have D5 := D.xt (x4.trans xt)
              obtain ⟨kf, hk1, hk2⟩ := nkA_at D5.k hv
              rw [List.getElem?_map, hf] at hk1
              cases hk1
              exact ⟨wk_set rfl, _, rfl, _, rfl, v, q, f, cs, rfl, hk2, D5.c, (x4.trans xt).tabG t2, fun H6 y6 => ⟨_, rfl, kk H6 (xt.trans y6)⟩⟩
            · have x5 := x4.trans y5
              have D5 := D.xt x5
              refine ⟨_, rfl, ite2 (fun h5 => ?_) (fun h5 => ?_)⟩
              · have h5' : fs.all (fun f => aboutB f cs) = false := by simpa using h5
                exact valO (by unfold worldF; rw [hL, h3', decide_eq_true h4', h5'] <;> rfl) (k _ x5)
              · have h5' : fs.all (fun f => aboutB f cs) = true := by
                  cases e : fs.all (fun f => aboutB f cs)
                  · rw [e] at h5; exact absurd rfl h5
                  · rfl
                obtain ⟨ps, hp1, hp2, hp3, hp4⟩ := refs_of_keys fk (fun x => ⟨_, rfl⟩) fk_depth fs us D5.k
                refine ⟨_, rfl, p, rfl, .inl ⟨ps, by rw [← hp1]; exact D5.f, hp2, by omega, fun n hn1 hn2 => ⟨_, rfl, p, us, rfl, .inl D5.f, _, _, rfl, rfl, _, rfl, ?_⟩⟩⟩
                rw [hp3, fk_nodup, hp4] at hn2
                rw [hus]
                refine ite2 (fun h6 => ?_) (fun h6 => ?_)
                · have h6' : ¬ fs.Nodup := fun z => by
                    have h : ((n : Int) < (fs.length : Int)) := of_decide_eq_true h6
                    have := hn2.mpr z
                    omega
                  exact valO (by unfold worldF; rw [hL, h3', decide_eq_true h4', h5', decide_eq_false h6'] <;> rfl) (k _ x5)
                · have h6' : fs.Nodup := hn2.mp (by
                    have h : ¬ ((n : Int) < (fs.length : Int)) := fun z => h6 (decide_eq_true z)
                    omega)
                  exact valO (by unfold worldF; rw [hL, h3', decide_eq_true h4', h5', decide_eq_true h6'] <;> rfl) (k _ x5)
    · have h1' : ¬ ((1 : Int) ≤ (cs.length : Int)) := by simpa using h1
      exact valO (by unfold worldF; rw [show lenB 6 cs.length = false by simp [lenB, h1']] <;> rfl) (k _ (Xt.refl H))

end
end K0
set_option Elab.async false
set_option linter.all false
set_option maxRecDepth 100000
set_option maxHeartbeats 4000000
namespace K0
open PySem PySem.Spec PyProof.Rows L2 Gx

open Lw Sn
/-! ### what a signature must be -/
def plB (r : Str × Int) : Bool := decide (1 ≤ r.2) && decide (r.2 ≤ 3)
def sigF (kn un : List (Str × Int)) : Option Str :=
  if !lenB 6 kn.length || !lenB 3 un.length then some "count" else if !((kn ++ un).map (·.1)).all nameB then some "name" else if !decide ((kn ++ un).map (·.1)).Nodup then some "twice" else if !(kn ++ un).all plB then some "places" else none
/-- a list of pairs -/
structure Rl (K : PySem.W.Frag) (H : Hp) (q : Addr) (rs : List (Str × Int)) (vs : List V) : Prop where
  l : SqL K H q vs
  k : NkA K H (rs.map rk) vs
  w : ∀ r ∈ rs, Wd r.1
  n : rs.length ≤ 100
theorem Rl.xt {K : PySem.W.Frag} {H H' : Hp} {q : Addr} {rs : List (Str × Int)} {vs : List V} (h : Rl K H q rs vs) (x : Xt H H') : Rl K H' q rs vs := ⟨x.sqL h.l, nkA_tk (.of_xt x) _ _ h.k, h.w, h.n⟩
theorem Rl.len {K : PySem.W.Frag} {H : Hp} {q : Addr} {rs : List (Str × Int)} {vs : List V} (h : Rl K H q rs vs) : vs.length = rs.length := by rw [nkA_len h.k, List.length_map]
def spSf (K : PySem.W.Frag) (a : Ads) : Sp := fun vs H Q _ => ∃ (q p : Addr) (kn un : List (Str × Int)) (us ws : List V), vs = [.ref q, .ref p] ∧ Rl K H q kn us ∧ Rl K H p un ws ∧ GxR.TabG H a.P_is_name ∧ GxR.TabG H a.P_signature_fault ∧ ∀ H1, Xt H H1 → Q (optV (sigF kn un)) H1
theorem not_tt {b : Bool} (h : (!b) = true) : b = false := by cases b <;> first | rfl | cases h
theorem len_chain {n : Nat} {m : Nat} {A B : Prop} (h1 : lenB m n = true → A) (h2 : lenB m n = false → B) : if lenB m n = true then A else B := ite2 h1 (fun e => h2 (eq_false_of_ne_true e))
section
variable {P : Program} {w : World} {K : PySem.W.Frag} {mg : Str → Option Value} {base : Heap} {a : Ads}
theorem ok_signature_fault (T : Txt K mg a) (B : TabT base mg a) (G_is_name : FnOk P w K mg base CX0 2 a.f_is_name a.fd_is_name ["word"] (spName a)) : FnOk P w K mg base CX0 4 a.f_signature_fault a.fd_signature_fault ["known", "unknown"] (spSf K a) := by
  refine T.F_signature_fault.ok sc_signature_fault (fun vs H Q E h => ?_) (fun A outer s H vs Q E hr h => ?_)
  · obtain ⟨q, p, kn, un, us, ws, rfl, _⟩ := h
    rfl
  · obtain ⟨q, p, kn, un, us, ws, rfl, D1, D2, t1, t2, k⟩ := h
    refine ⟨_, (pss_cons (ps_if (PW.pt (pw_or (pt_not (pt_chain op_le op_le pe_int (pe_callB (Gx.call_len_seqK (K := K) rfl) rfl T.len (by decide +kernel) (pa_cons (pv 0) pa_nil)) pe_int)) (pw_or1 (pt_not (pt_chain op_le op_le pe_int (pe_callB (Gx.call_len_seqK (K := K) rfl) rfl T.len (by decide +kernel) (pa_cons (pv 1) pa_nil)) pe_int)))))
  (pss_one (ps_ret pe_str))
  pss_nil)
 (pss_cons (ps_set (i := 2) sc_signature_fault.nd rfl (.inl rfl) (pe_lst (Gx.pa_starK (K := K) rfl (pv 0) (Gx.pa_starK (K := K) rfl (pv 1) pa_nil))))
 (pss_cons (ps_setLc (i := 3) (own := [("name", 4), ("_", 5)]) rfl sc_signature_fault.nd rfl rfl (sw_true rfl rfl rfl (by decide +kernel)) (Gx.pi_listK (K := K) rfl (pv 2)) (blkOk_by (own := [("name", 4), ("_", 5)]) (N := ["known", "unknown", "relations", "names", "name", "_"]) (sc := defScope s_signature_fault) (by decide +kernel)) (fun _ _ _ _ _ => (Gx.pg_tupK (K := K) rfl (n := 2) rfl (pgs_cons (pg_name (i := 4) sc_signature_fault.nd rfl (.inl rfl)) (pgs_cons (pg_name (i := 5) sc_signature_fault.nd rfl (.inl rfl)) pgs_nil)))) (fun _ _ _ _ _ => pts_nil) (fun _ _ _ _ _ => (pv 4)))
 (pss_cons (ps_if (pt_not (pt_val (Gx.pe_allG (own := ["name"]) (caps := []) (cix := []) hr rfl T.all B.tab_signature_fault rfl (Gx.gxs_by (sc := defScope s_signature_fault) (N := ["known", "unknown", "relations", "names", "name", "_"]) (by decide +kernel)) (Gx.pi_listK (K := K) rfl (pv 3)) (fun A s H C cl code bi fp pn hr' => (pg_name (i := 0) (Gx.ndw (own := ["name"]) (caps := []) (by decide +kernel)) rfl (.inl rfl))) (fun A s H C cl code bi fp pn hr' => pts_nil) (fun A s H C cl code bi fp pn hr' => (pe_call G_is_name (hr'.mono (by decide)) rfl T.g_is_name T.F_is_name.kp T.b_is_name .nil pass0 (pa_cons (pv 0) pa_nil))))))
  (pss_one (ps_ret pe_str))
  pss_nil)
 (pss_cons (ps_if (pt_cmpR op_lt (Sn.pe_lenSetN (K := K) rfl rfl hr.units rfl T.len rfl T.set (pv 3)) (pe_callB (Gx.call_len_seqK (K := K) rfl) rfl T.len (by decide +kernel) (pa_cons (pv 3) pa_nil)) (nomark _))
  (pss_one (ps_ret pe_str))
  pss_nil)
 (pss_cons (ps_if (pt_not (pt_val (Gx.pe_allG (own := ["relation"]) (caps := []) (cix := []) hr rfl T.all B.tab_signature_fault rfl (Gx.gxs_by (sc := defScope s_signature_fault) (N := ["known", "unknown", "relations", "names", "name", "_"]) (by decide +kernel)) (Gx.pi_listK (K := K) rfl (pv 2)) (fun A s H C cl code bi fp pn hr' => (pg_name (i := 0) (Gx.ndw (own := ["relation"]) (caps := []) (by decide +kernel)) rfl (.inl rfl))) (fun A s H C cl code bi fp pn hr' => pts_nil) (fun A s H C cl code bi fp pn hr' => (pe_chain op_le op_le pe_int (pe_ix (Gx.ix_tupK (K := K) rfl) (pv 0) pe_int (fun _ _ => rfl)) pe_int)))))
  (pss_one (ps_ret pe_str))
  pss_nil)
 (pss_one (ps_ret pe_non)))))))), ?_⟩
    have e1 : ((us.length : Nat) : Int) = (kn.length : Int) := by rw [D1.len]
    have e2 : ((ws.length : Nat) : Int) = (un.length : Int) := by rw [D2.len]
    refine rd_chain (m := (us.length : Int)) (fun Q q0 => rd_lenL rfl D1.l Q q0) ?_
    rw [e1]
    have hb1 : (decide ((1 : Int) ≤ (kn.length : Int)) && decide ((kn.length : Int) ≤ 6)) = lenB 6 kn.length := rfl
    have hb2 : (decide ((1 : Int) ≤ (un.length : Int)) && decide ((un.length : Int) ≤ 3)) = lenB 3 un.length := rfl
    rw [hb1]
    refine ite2 (fun h1 => ?_) (fun h1 => ?_)
    · exact iteT (show Q (optV (some (Str.ofString "count"))) H from valO (by unfold sigF; rw [h1, Bool.true_or] <;> rfl) (k _ (Xt.refl H)))
    · have h1' : lenB 6 kn.length = true := by simpa using h1
      refine rd_chain (m := (ws.length : Int)) (fun Q q0 => rd_lenL rfl D2.l Q q0) ?_
      rw [e2, hb2]
      refine ite2 (fun h2 => ?_) (fun h2 => ?_)
      · exact show Q (optV (some (Str.ofString "count"))) H from valO (by unfold sigF; rw [h2, Bool.or_true] <;> rfl) (k _ (Xt.refl H))
      · have h2' : lenB 3 un.length = true := by simpa using h2
        have hn1 := D1.n
        have hn2 := D2.n
        refine ⟨_, rfl, q, us, rfl, .inr D1.l, _, rfl, p, ws, rfl, .inr D2.l, ?_, fun l hl => ?_⟩
        · rw [List.append_nil, List.length_append, D1.len, D2.len]
          exact Nat.le_trans (Nat.add_le_add hn1 hn2) (by decide)
        · rw [List.append_nil]
          have x1 := Xt.new (o := .lst (us ++ ws)) hl
          have hR : ∀ H2, Xt H H2 → NkA K H2 ((kn ++ un).map rk) (us ++ ws) := fun H2 x => by
            rw [List.map_append]
            exact nkA_app ((D1.xt x).k) ((D2.xt x).k)
          have hlen : (us ++ ws).length = (kn ++ un).length := by rw [List.length_append, List.length_append, D1.len, D2.len]
          have hw : ∀ r ∈ kn ++ un, Wd r.1 := fun r hr => (List.mem_append.mp hr).elim (D1.w r) (D2.w r)
          have hsz : (kn ++ un).length ≤ 200 := by rw [List.length_append]; omega
          refine ⟨_, rfl, l, rfl, ⟨_, .inl (.inl (upd_same ..))⟩, fun D hD => lcf_by (kn ++ un) (fun _ => true) (fun r => .str r.1) hlen (.inl (.inl (upd_same ..))) hD (Nat.le_trans hsz (by decide)) (fun i v r hv hr' H' Y N xt k1 k2 => ?_) (fun H3 x3 hl3 => ?_)⟩
          · obtain ⟨kr, hk1, hk2⟩ := nkA_at (hR H' (x1.trans xt)) hv
            rw [List.getElem?_map, hr'] at hk1
            cases hk1
            obtain ⟨t, rfl, ht⟩ := rk_inv hk2
            exact ⟨t, _, rfl, ht, rfl, _, _, rfl, _, _, rfl, rfl, rfl, _, rfl, k1 _ (Xt.refl _) rfl⟩
          · have hf : ((kn ++ un).filter fun _ => true) = kn ++ un := List.filter_eq_self.mpr fun _ _ => rfl
            rw [hf] at hl3
            have hl3' : H3 D = some (.lst (((kn ++ un).map (·.1)).map V.str)) := by rw [hl3, List.map_map]; rfl
            have hl3l : H3 l = some (.lst (us ++ ws)) := x3.lst (upd_same ..)
            replace x3 := x1.trans x3
            refine ⟨_, rfl, D, rfl, ⟨_, .inl (.inl hl3')⟩, x3.tabG t2, fun H4 y4 => ?_⟩
            have y4' : Xt H3 H4 := Xt.tabbed (x3.tabG t2) y4
            refine gx_all_list isN (.inl (.inl (y4'.lst hl3'))) (fun v hv H' N xt kk => ?_) (fun H5 y5 => ?_)
            · obtain ⟨z, hz, rfl⟩ := List.mem_map.mp hv
              obtain ⟨r, hr2, rfl⟩ := List.mem_map.mp hz
              exact ⟨wk_set rfl, _, rfl, _, rfl, hw r hr2, ((x3.trans y4').trans xt).tabG t1, fun H6 y6 => ⟨_, rfl, kk H6 (xt.trans y6)⟩⟩
            · have x5 := (x3.trans y4').trans y5
              have hl5 := y5.lst (y4'.lst hl3')
              rw [all_isN]
              have s0 : sigF kn un = (if !((kn ++ un).map (·.1)).all nameB then some (Str.ofString "name") else if !decide ((kn ++ un).map (·.1)).Nodup then some (Str.ofString "twice") else if !(kn ++ un).all plB then some (Str.ofString "places") else none : Option Str) := by
                unfold sigF
                rw [h1', h2']
                rfl
              refine ⟨_, rfl, ite2 (fun h3 => ?_) (fun h3 => ?_)⟩
              · have h3' : ((kn ++ un).map (·.1)).all nameB = false := not_tt h3
                exact show Q (optV (some (Str.ofString "name"))) H5 from valO (by rw [s0, h3'] <;> rfl) (k _ x5)
              · have h3' : ((kn ++ un).map (·.1)).all nameB = true := by
                  cases e : ((kn ++ un).map (·.1)).all nameB
                  · rw [e] at h3; exact absurd rfl h3
                  · rfl
                refine ⟨_, rfl, D, rfl, .inr ⟨_, .inl (.inl hl5), by rw [List.length_map]; omega, fun n hn1 hn2 => ⟨_, rfl, D, _, rfl, .inl (.inl (.inl hl5)), _, _, rfl, rfl, _, rfl, ?_⟩⟩⟩
                have el : ((((kn ++ un).map (·.1)).map V.str).length : Int) = (((kn ++ un).map (·.1)).length : Int) := by rw [List.length_map]
                rw [el]
                refine ite2 (fun h4 => ?_) (fun h4 => ?_)
                · have h4' : ¬ ((kn ++ un).map (·.1)).Nodup := fun z => by
                    have h : ((n : Int) < (((kn ++ un).map (·.1)).length : Int)) := of_decide_eq_true h4
                    have := hn2.mpr z
                    omega
                  exact show Q (optV (some (Str.ofString "twice"))) H5 from valO (by rw [s0, h3', decide_eq_false h4'] <;> rfl) (k _ x5)
                · have h4' : ((kn ++ un).map (·.1)).Nodup := hn2.mp (by
                    have h : ¬ ((n : Int) < (((kn ++ un).map (·.1)).length : Int)) := fun z => h4 (decide_eq_true z)
                    omega)
                  have hl6 : H5 l = some (.lst (us ++ ws)) := y5.lst (y4'.lst hl3l)
                  refine ⟨_, rfl, l, rfl, ⟨_, .inl (.inl hl6)⟩, x5.tabG t2, fun H6 y6 => ?_⟩
                  have y6' : Xt H5 H6 := Xt.tabbed (x5.tabG t2) y6
                  refine gx_all_by (kn ++ un) plB hlen (.inl (.inl (y6'.lst hl6))) (fun i v r hv hr' H' N xt kk => ?_) (fun H7 y7 => ?_)
                  · obtain ⟨kr, hk1, hk2⟩ := nkA_at (hR H' ((x5.trans y6').trans xt)) hv
                    rw [List.getElem?_map, hr'] at hk1
                    cases hk1
                    obtain ⟨t, rfl, ht⟩ := rk_inv hk2
                    refine ⟨wk_set rfl, rd_chainV (m := r.2) (fun Q q0 => ⟨_, rfl, t, _, 1, .int r.2, rfl, rfl, ht, atI_nat (j := 1) rfl, q0⟩) ⟨_, rfl, ?_⟩⟩
                    exact kk _ xt
                  · have x7 := (x5.trans y6').trans y7
                    refine ⟨_, rfl, ite2 (fun h5 => ?_) (fun h5 => ?_)⟩
                    · have h5' : (kn ++ un).all plB = false := not_tt h5
                      exact show Q (optV (some (Str.ofString "places"))) H7 from valO (by rw [s0, h3', decide_eq_true h4', h5'] <;> rfl) (k _ x7)
                    · have h5' : (kn ++ un).all plB = true := by
                        cases e : (kn ++ un).all plB
                        · rw [e] at h5; exact absurd rfl h5
                        · rfl
                      exact show Q (optV none) H7 from valO (by rw [s0, h3', decide_eq_true h4', h5'] <;> rfl) (k _ x7)

end
end K0
set_option Elab.async false
set_option linter.all false
set_option maxRecDepth 100000
set_option maxHeartbeats 4000000
namespace K0
open PySem PySem.Spec PyProof.Rows L2 Gx

open Lw Sn
section
variable {P : Program} {w : World} {K : PySem.W.Frag} {mg : Str → Option Value} {base : Heap} {a : Ads}
theorem ok__law_take (T : Txt K mg a) (B : TabT base mg a) : FnOk P w K mg base CX0 1 a.f__law_take a.fd__law_take ["draws", "bound"] (spTake) := by
  refine T.F__law_take.ok sc__law_take (fun vs H Q E h => ?_) (fun A outer s H vs Q E hr h => ?_)
  · obtain ⟨d, b, rfl, _⟩ := h
    rfl
  · obtain ⟨d, b, rfl, hb, hd, q⟩ := h
    refine ⟨_, (pss_cons (ps_if (pt_cmpR op_eq (pe_callB (Gx.call_len_seqK (K := K) rfl) rfl T.len (by decide +kernel) (pa_cons (pv 0) pa_nil)) pe_int (nomark _))
  (pss_one (ps_ret pe_int))
  pss_nil)
 (pss_one (ps_ret (pe_op op_modN (pe_callTy call_int1 rfl T.int (by decide +kernel) (pa_cons (Gx.pe_bm0K (K := K) rfl PySem.F.plainAttrs_list PySem.F.slot_list_pop PySem.F.type_list_pop mt_pop (pv 0)) pa_nil)) (pv 1))))), ?_⟩
    obtain ⟨ns, e⟩ := id hd
    refine ⟨_, rfl, d, _, rfl, .inl (.inl (.inl e)), rfl, _, rfl, ite2 (fun h1 => ?_) (fun h1 => ?_)⟩
    · exact q H 0 (Xd.refl hd) (Int.le_refl _) hb
    · have hne : ns ≠ [] := fun z => h1 (by rw [z]; decide)
      rcases List.eq_nil_or_concat ns with h | ⟨l, n, h⟩
      · exact absurd h hne
      rw [List.concat_eq_append] at h
      subst h
      refine ⟨_, rfl, .inl ⟨rfl, _, .inl (.inl e)⟩, d, _, .int n, rfl, rfl, e, by simp, .inl ⟨n, rfl, _, rfl, n, b, rfl, rfl, by omega, ?_⟩⟩
      show Q (.int (n.fmod b)) _
      rw [Int.fmod_eq_emod_of_nonneg _ (by omega)]
      refine q _ _ ?_ (Int.emod_nonneg _ (by omega)) (Int.emod_lt_of_pos _ hb)
      have e2 : (((l ++ [n]).map V.int).dropLast) = l.map V.int := by simp
      rw [e2]
      exact Xd.draw hd

theorem ok__law_draws (T : Txt K mg a) (B : TabT base mg a) : FnOk P w K mg base CX0 1 a.f__law_draws a.fd__law_draws ["script"] (spDraws K) := by
  refine T.F__law_draws.ok sc__law_draws (fun vs H Q E h => ?_) (fun A outer s H vs Q E hr h => ?_)
  · obtain ⟨q0, ns, rfl, _⟩ := h
    rfl
  · obtain ⟨q0, ns, rfl, hs, hn, k⟩ := h
    refine ⟨_, (pss_cons (ps_set (i := 1) sc__law_draws.nd rfl (.inl rfl) (pe_lst pa_nil))
 (pss_cons (ps_for PassesOwn.never rfl (Gx.pi_listK (K := K) rfl (pv 0)) (pg_name (i := 2) sc__law_draws.nd rfl (.inl rfl))
  (pss_cons (ps_set (i := 3) sc__law_draws.nd rfl (.inl rfl) (pe_callB call_abs rfl T.abs (by decide +kernel) (pa_cons (pv 2) pa_nil)))
 (C8.pss_cut (ps_if (pt_cmpR op_lt (pv 3) (pe_op op_pow pe_int pe_int) (nomark _))
  (pss_cons (ps_set (i := 4) sc__law_draws.nd rfl (.inl rfl) (pe_op op_mod (pe_callTy call_int1 rfl T.int (by decide +kernel) (pa_cons (pe_op op_add (pe_op op_mul (pv 3) pe_int) pe_int) pa_nil)) pe_int))
 (pss_cons (ps_expr (Gx.pe_bmK (K := K) rfl PySem.F.plainAttrs_list PySem.F.slot_list_append PySem.F.type_list_append mt_append (pv 1) (pa_cons (pe_op op_mod (pe_callTy call_int1 rfl T.int (by decide +kernel) (pa_cons (pe_op op_add (pe_op op_mul (pv 4) pe_int) (pv 3)) pa_nil)) pe_int) pa_nil)))
 (pss_cons (ps_expr (Gx.pe_bmK (K := K) rfl PySem.F.plainAttrs_list PySem.F.slot_list_append PySem.F.type_list_append mt_append (pv 1) (pa_cons (pe_op op_mod (pe_callTy call_int1 rfl T.int (by decide +kernel) (pa_cons (pe_op op_add (pv 4) (pe_op op_fdiv (pv 3) pe_int)) pa_nil)) pe_int) pa_nil)))
 (pss_one (ps_set (i := 3) sc__law_draws.nd rfl (.inl rfl) pe_int)))))
  pss_nil)
 (pss_one (ps_for PassesOwn.never rfl (pi_range1 rfl T.range (pa_cons pe_int pa_nil)) (pg_name (i := 5) sc__law_draws.nd rfl (.inl rfl))
  (pss_one (ps_if (pt_cmpR op_gt (pv 3) pe_int (nomark _))
  (pss_cons (ps_expr (Gx.pe_bmK (K := K) rfl PySem.F.plainAttrs_list PySem.F.slot_list_append PySem.F.type_list_append mt_append (pv 1) (pa_cons (pe_op op_mod (pe_callTy call_int1 rfl T.int (by decide +kernel) (pa_cons (pv 3) pa_nil)) pe_int) pa_nil)))
 (pss_one (ps_set (i := 3) sc__law_draws.nd rfl (.inl rfl) (pe_op op_fdiv (pv 3) pe_int))))
  pss_nil)))))))
 (pss_cons (ps_set (i := 6) sc__law_draws.nd rfl (.inl rfl) pe_int)
 (C8.pss_cut (ps_if (pt_cmpR op_gt (pe_callB (Gx.call_len_seqK (K := K) rfl) rfl T.len (by decide +kernel) (pa_cons (pv 0) pa_nil)) pe_int (nomark _))
  (pss_one (ps_set (i := 6) sc__law_draws.nd rfl (.inl rfl) (pe_op op_add pe_int (pe_callB call_abs rfl T.abs (by decide +kernel) (pa_cons (pe_ix (Gx.ix_listK (K := K) rfl) (pv 0) pe_int (fun _ _ => rfl)) pa_nil)))))
  pss_nil)
 (pss_cons (ps_for PassesOwn.never rfl (pi_range1 rfl T.range (pa_cons pe_int pa_nil)) (pg_name (i := 5) sc__law_draws.nd rfl (.inl rfl))
  (pss_cons (ps_set (i := 6) sc__law_draws.nd rfl (.inl rfl) (pe_op op_mod (pe_callTy call_int1 rfl T.int (by decide +kernel) (pa_cons (pe_op op_add (pe_op op_mul (pv 6) pe_int) pe_int) pa_nil)) pe_int))
 (pss_one (ps_expr (Gx.pe_bmK (K := K) rfl PySem.F.plainAttrs_list PySem.F.slot_list_append PySem.F.type_list_append mt_append (pv 1) (pa_cons (pe_op op_fdiv (pv 6) pe_int) pa_nil))))))
 (pss_one (ps_ret (Gx.pe_listRevK (K := K) rfl rfl rfl T.list rfl T.reversed (pv 1))))))))), ?_⟩
    have zl : 200001 ≤ sizeLine := by decide
    have app : ∀ (l : List Int) (n : Int), l.map V.int ++ [V.int n] = (l ++ [n]).map V.int := fun l n => by simp
    refine ⟨Nat.zero_le _, fun r hr0 => ⟨_, rfl, q0, rfl, ⟨_, (Xt.new hr0).sqL hs⟩, for_list (xs := ns.map V.int) (fun i σ H' => ∃ (c n f j e : Option V) (ms : List Int), σ = [some (.ref q0), some (.ref r), c, n, f, j, e] ∧ Xt H H' ∧ H' r = some (.lst (ms.map V.int)) ∧ ms.length ≤ 62 * i)
      ⟨none, none, none, none, none, [], rfl, Xt.new hr0, upd_same .., Nat.le_refl _⟩ (fun i σ H' _ ⟨c, n, f, j, e, ms, e1, xt, _⟩ => xt.sqL hs) (fun i v σ H' hv hh => ?_) (fun σ H' hh => ?_)⟩⟩
    · obtain ⟨c, n, f, j, e, ms, rfl, xt, hm, hl⟩ := hh
      rw [List.getElem?_map] at hv
      obtain ⟨z, hz, rfl⟩ := Option.map_eq_some_iff.mp hv
      have hi := (List.getElem?_eq_some_iff.mp hz).1
      refine ⟨_, rfl, _, rfl, ?_⟩
      refine ⟨fun σ2 H2 => ∃ (m : Int) (f : Option V) (ms2 : List Int), σ2 = [some (.ref q0), some (.ref r), some (.int z), some (.int m), f, j, e] ∧ Xt H H2 ∧ H2 r = some (.lst (ms2.map V.int)) ∧ ms2.length ≤ 62 * i + 2, ?_, fun σ2 H2 hh => ?_⟩
      · refine ⟨_, rfl, _, _, rfl, rfl, ⟨by decide, by decide, by decide⟩, _, _, rfl, rfl, _, rfl, ite2 (fun h1 => ?_) (fun h1 => ?_)⟩
        · refine ⟨_, rfl, _, _, rfl, rfl, .inr ⟨by decide, by decide⟩, _, _, rfl, rfl, .inl ⟨_, rfl, _, _, rfl, rfl, (by show (0 : Int) < 2147483647; decide), ?_⟩⟩
          refine ⟨_, rfl, .inl ⟨rfl, _, .inl (.inl hm)⟩, _, rfl, _, _, rfl, rfl, .inr ⟨by decide, by decide⟩, _, rfl, _, _, rfl, rfl, .inl ⟨_, rfl, _, _, rfl, rfl, (by show (0 : Int) < 2147483629; decide), r, _, _, rfl, rfl, hm, by rw [List.length_map]; omega, ?_⟩⟩
          refine ⟨_, rfl, .inl ⟨rfl, _, .inl (.inl (upd_same ..))⟩, _, rfl, _, rfl, _, _, rfl, rfl, ⟨by decide, by decide⟩, _, _, rfl, rfl, .inl ⟨_, rfl, _, _, rfl, rfl, (by show (0 : Int) < 1000003; decide), r, _, _, rfl, rfl, upd_same .., by rw [app, List.length_map, List.length_append]; show _ + 1 < _; omega, ?_⟩⟩
          refine ⟨0, _, _, rfl, ((xt.mut hr0).mut hr0), by rw [upd_same, app, app], ?_⟩
          simp only [List.length_append, List.length_cons, List.length_nil]
          omega
        · exact ⟨_, _, _, rfl, xt, hm, by omega⟩
      · obtain ⟨m, f, ms2, rfl, xt2, hm2, hl2⟩ := hh
        refine ⟨60, rfl, by decide, by decide, for_range (n := 60) (fun l σ H' => ∃ (m : Int) (g : Option V) (ms : List Int), σ = [some (.ref q0), some (.ref r), some (.int z), some (.int m), f, g, e] ∧ Xt H H' ∧ H' r = some (.lst (ms.map V.int)) ∧ ms.length ≤ 62 * i + 2 + l)
          ⟨m, _, ms2, rfl, xt2, hm2, hl2⟩ (fun l σ H' hl hh => ?_) (fun σ H' hh => ?_)⟩
        · obtain ⟨m, g, ms, rfl, xt, hm, hl2⟩ := hh
          refine ⟨_, rfl, _, _, rfl, rfl, _, rfl, ite2 (fun h1 => ?_) (fun h1 => ?_)⟩
          · refine ⟨_, rfl, .inl ⟨rfl, _, .inl (.inl hm)⟩, _, rfl, .inl ⟨_, rfl, _, _, rfl, rfl, (by show (0 : Int) < 840; decide), r, _, _, rfl, rfl, hm, by rw [List.length_map]; omega, ?_⟩⟩
            refine ⟨_, rfl, _, _, rfl, rfl, ⟨by decide, by decide⟩, _, _, _, rfl, xt.mut hr0, by rw [upd_same, app], ?_⟩
            simp only [List.length_append, List.length_cons, List.length_nil]
            omega
          · exact ⟨_, _, _, rfl, xt, hm, by omega⟩
        · obtain ⟨m, g, ms, rfl, xt, hm, hl2⟩ := hh
          exact ⟨_, _, _, _, _, ms, rfl, xt, hm, by omega⟩
    · obtain ⟨c, n, f, j, e, ms, rfl, xt, hm, hl⟩ := hh
      rw [List.length_map] at hl
      refine ⟨fun σ2 H2 => H2 = H' ∧ ∃ sd : Int, σ2 = [some (.ref q0), some (.ref r), c, n, f, j, some (.int sd)], ?_, fun σ2 H2 hh => ?_⟩
      · refine ⟨_, rfl, q0, _, rfl, .inl (xt.sqL hs), _, _, rfl, rfl, _, rfl, ite2 (fun h1 => ?_) (fun h1 => ?_)⟩
        · obtain ⟨z, zs, rfl⟩ : ∃ z zs, ns = z :: zs := by
            cases ns with
            | nil => exact absurd h1 (by decide)
            | cons z zs => exact ⟨z, zs, rfl⟩
          exact ⟨_, rfl, q0, _, 0, _, rfl, rfl, xt.sqL hs, atI_nat (j := 0) rfl, _, rfl, _, _, rfl, rfl, rfl, _, rfl⟩
        · exact ⟨rfl, _, rfl⟩
      · obtain ⟨rfl, sd, rfl⟩ := hh
        refine ⟨200, rfl, by decide, by decide, for_range (n := 200) (fun l σ H' => ∃ (sd : Int) (g : Option V) (ms : List Int), σ = [some (.ref q0), some (.ref r), c, n, f, g, some (.int sd)] ∧ Xt H H' ∧ H' r = some (.lst (ms.map V.int)) ∧ ms.length ≤ 62 * ns.length + l)
          ⟨sd, _, ms, rfl, xt, hm, hl⟩ (fun l σ H' hl hh => ?_) (fun σ H' hh => ?_)⟩
        · obtain ⟨sd, g, ms, rfl, xt, hm, hl2⟩ := hh
          refine ⟨_, rfl, _, _, rfl, rfl, .inr ⟨by decide, by decide⟩, _, _, rfl, rfl, .inl ⟨_, rfl, _, _, rfl, rfl, (by show (0 : Int) < 2147483647; decide), ?_⟩⟩
          refine ⟨_, rfl, .inl ⟨rfl, _, .inl (.inl hm)⟩, _, rfl, _, _, rfl, rfl, ⟨by decide, by decide⟩, r, _, _, rfl, rfl, hm, by rw [List.length_map]; omega, ?_⟩
          refine ⟨_, _, _, rfl, xt.mut hr0, by rw [upd_same, app], ?_⟩
          simp only [List.length_append, List.length_cons, List.length_nil]
          omega
        · obtain ⟨sd, g, ms, rfl, xt, hm, hl2⟩ := hh
          refine ⟨_, rfl, r, _, rfl, .inl (.inl hm), fun q1 hq1 => ?_⟩
          refine k _ q1 (xt.trans (Xt.new hq1)) (xt.free hq1) ⟨ms.reverse, by rw [upd_same, List.map_reverse]⟩

end
end K0
set_option Elab.async false
set_option linter.all false
set_option maxRecDepth 100000
set_option maxHeartbeats 4000000
/-! comprehensions over a range; twice in a list of texts -/
namespace Lw
open PySem PySem.Spec PyProof.Rows L2 Gx Sn
section
variable {K : PySem.W.Frag} {g : TG} {tt : TT} {te : TE}
theorem lcf_rng {vs : List Nat} {σ : L2.St} {H1 : Hp} {D : Addr} {Qd : Hp → Prop} {m : Nat} (p : Nat → Bool) (f : Nat → V) (hD : H1 D = none) (hz : m ≤ sizeLine)
    (hs : ∀ i, i < m → ∀ H' (Y : V → Hp → Prop) (N : Hp → Prop), Xt H1 H' → (∀ H2, Xt H' H2 → p i = true → Y (f i) H2) → (∀ H2, Xt H' H2 → p i = false → N H2) →
      g (.int i) (wipe σ vs) H' fun σ2 H2 => wipe σ2 vs = wipe σ vs ∧ tt σ2 H2 fun b H3 => if b = true then te σ2 H3 Y else N H3)
    (hd : ∀ H', Xt H1 H' → H' D = some (.lst (((List.range m).filter p).map f)) → Qd H') :
    ∃ W : Nat → Nat → Hp → Prop, (∃ m', W 0 m' (upd H1 D (.lst []))) ∧ ∀ i m' H, W i m' H →
      ((Itr 0 m).stop i H ∧ Qd H) ∨ ((Itr 0 m).go i H ∧ ∃ Nx : Hp → Prop, (∀ H', Nx H' → ∃ m'', m'' < m' ∧ W (i + 1) m'' H') ∧ ∀ v H', (Itr 0 m).yld i H v H' → g v (wipe σ vs) H' fun σ2 H2 => wipe σ2 vs = wipe σ vs ∧ tt σ2 H2 fun b H3 =>
        if b = true then te σ2 H3 fun y H4 => ∃ acc, H4 D = some (.lst acc) ∧ acc.length < sizeLine ∧ Nx (upd H4 D (.lst (acc ++ [y]))) else Nx H3) := by
  refine lc_range (fun i H' => Xt H1 H' ∧ H' D = some (.lst (((List.range i).filter p).map f))) ⟨Xt.new hD, upd_same ..⟩ (fun i H' hi hp => ?_) (fun H' hp => hd H' hp.1 hp.2)
  obtain ⟨xt, hp⟩ := hp
  have e0 : (0 + (i : Int)) = (i : Int) := by omega
  rw [e0]
  refine hs i hi H' _ _ xt (fun H2 x2 e => ⟨_, x2.lst hp, ?_, (xt.trans x2).mut hD, ?_⟩) (fun H2 x2 e => ⟨xt.trans x2, ?_⟩)
  · rw [List.length_map]
    exact Nat.lt_of_le_of_lt (Nat.le_trans (List.length_filter_le ..) (Nat.le_of_eq List.length_range)) (Nat.lt_of_lt_of_le hi hz)
  · rw [upd_same, List.range_succ, List.filter_append, List.map_append, List.filter_cons, if_pos e]
    rfl
  · rw [x2.lst hp, List.range_succ, List.filter_append, List.map_append, List.filter_cons, if_neg (by rw [e]; exact Bool.false_ne_true)]
    show _ = some (HO.lst (_ ++ []))
    rw [List.append_nil]
end
/-- the places at which something stands again -/
theorem twice_by {α : Type} (l : List α) (p : Nat → Bool) [Decidable l.Nodup] (hp : ∀ i x, l[i]? = some x → (p i = true ↔ x ∈ l.take i)) : ((List.range l.length).filter p).isEmpty = decide l.Nodup := by
  rw [Bool.eq_iff_iff, List.isEmpty_iff, decide_eq_true_iff, List.filter_eq_nil_iff]
  unfold List.Nodup
  rw [List.pairwise_iff_getElem]
  constructor
  · intro h i j hi hj hij e
    refine h j (List.mem_range.mpr hj) ?_
    rw [hp j _ (List.getElem?_eq_getElem hj), ← e]
    rw [List.mem_take_iff_getElem]
    exact ⟨i, by omega, rfl⟩
  · intro h i hi e
    have hi' := List.mem_range.mp hi
    rw [hp i _ (List.getElem?_eq_getElem hi'), List.mem_take_iff_getElem] at e
    obtain ⟨j, hj, ej⟩ := e
    exact h j i (by omega) hi' (by omega) ej
theorem twice_nodup {α : Type} [DecidableEq α] (l : List α) (p : Nat → Bool) (hp : ∀ i x, l[i]? = some x → p i = decide (x ∈ l.take i)) : ((List.range l.length).filter p).isEmpty = decide l.Nodup :=
  twice_by l p fun i x hx => by rw [hp i x hx, decide_eq_true_iff]
theorem map_isEmpty {α β : Type} (l : List α) (f : α → β) : (l.map f).isEmpty = l.isEmpty := by cases l <;> rfl
theorem fil_ne {α : Type} (l : List α) (p : α → Bool) : (l.filter fun c => !p c).isEmpty = l.all p := by
  have := fil_all l p id
  rw [List.map_id] at this
  exact this
/-- a list of plain values, as data -/
theorem dp_ints {K : PySem.W.Frag} {H : Hp} : ∀ l : List Int, DpAll K H (l.map V.int) (l.map PyData.int)
  | [] => .nil
  | n :: l => .cons (.int n) (dp_ints l)
theorem shp_ints (l : List Int) : SeqAt.shaped (.list (l.map PyData.int)) = true := by
  refine shp_list fun d hd => ?_
  obtain ⟨n, _, rfl⟩ := List.mem_map.mp hd
  exact ⟨rfl, Nat.zero_le _⟩
theorem shp_words {l : List Str} (h : ∀ x ∈ l, Wd x) : SeqAt.shaped (.list (l.map PyData.str)) = true := by
  refine shp_list fun d hd => ?_
  obtain ⟨x, hx, rfl⟩ := List.mem_map.mp hd
  refine ⟨?_, Nat.zero_le _⟩
  show (x.cps.all fun z => decide (z < 0x110000)) = true
  rw [Array.all_eq_true_iff_forall_mem]
  intro c hc
  have := (h x hx).asc c (by simpa using hc)
  simp; omega
theorem nn_str {K : PySem.W.Frag} {σ : L2.St} {H : Hp} {D : Addr} {ws : List Str} {Q : VK} (hl : H D = some (.lst (ws.map V.str))) (hw : ∀ x ∈ ws, Wd x) (q : ∀ H1, Xt H H1 → Q (.bl (!ws.isEmpty)) H1) :
    tLst tNil σ H (fun y H2 => rNeD K (.ref D) y H2 Q) := by
  refine ⟨Nat.zero_le _, fun l hl2 => ⟨_, _, .lst (.inl (.inl ((Xt.new hl2).lst hl))) (dp_strs _), .lst (.inl (.inl (upd_same ..))) .nil, shp_words hw, shp_nil, ?_⟩⟩
  rw [eqv_nil, map_isEmpty]
  exact q _ (Xt.new hl2)
theorem nn_int {K : PySem.W.Frag} {σ : L2.St} {H : Hp} {D : Addr} {ws : List Int} {Q : VK} (hl : H D = some (.lst (ws.map V.int))) (q : ∀ H1, Xt H H1 → Q (.bl (!ws.isEmpty)) H1) :
    tLst tNil σ H (fun y H2 => rNeD K (.ref D) y H2 Q) := by
  refine ⟨Nat.zero_le _, fun l hl2 => ⟨_, _, .lst (.inl (.inl ((Xt.new hl2).lst hl))) (dp_ints _), .lst (.inl (.inl (upd_same ..))) .nil, shp_ints _, shp_nil, ?_⟩⟩
  rw [eqv_nil, map_isEmpty]
  exact q _ (Xt.new hl2)
theorem cut_take (xs : List V) (i : Nat) : cutV xs none (some (i : Int)) = xs.take i := by
  unfold cutV
  rw [HT.sIx_none, HT.sIx_nat, List.drop_zero, Nat.sub_zero, List.take_eq_take_iff]
  omega
end Lw
namespace L2
open PySem PySem.Spec PyProof.Rows
theorem Room.u65 {k : Nat} {A : Around} (r : Room k A) : A.units + 65 < cLine := by have := r.un; omega
end L2
namespace Gx
open PySem PySem.Spec PyProof.Rows L2
theorem op_inDK {X : Cx} {K : PySem.W.Frag} (h : X.K = K) (hu : X.A.units + 65 < cLine) : OpR X (compareOp .In) (rInD K) := by subst h; exact op_inD hu
theorem op_notInDK {X : Cx} {K : PySem.W.Frag} (h : X.K = K) (hu : X.A.units + 65 < cLine) : OpR X (compareOp .NotIn) (rNotInD K) := by subst h; exact op_notInD hu
end Gx
set_option Elab.async false
set_option linter.all false
set_option maxRecDepth 100000
set_option maxHeartbeats 4000000
namespace K0
open PySem PySem.Spec PyProof.Rows L2 Gx

open Lw Sn
/-! ### what the law says of a signature -/
def spDueS (K : PySem.W.Frag) : Sp := fun vs H Q _ => ∃ (q p : Addr) (kn un : List (Str × Int)) (us ws : List V), vs = [.ref q, .ref p] ∧ H q = some (.lst us) ∧ H p = some (.lst ws) ∧ Rl K H q kn us ∧ Rl K H p un ws ∧ ∀ H1, Xt H H1 → Q (optV (sigF kn un)) H1
section
variable {P : Program} {w : World} {K : PySem.W.Frag} {mg : Str → Option Value} {base : Heap} {a : Ads}
theorem ok__law_signature_due (T : Txt K mg a) (B : TabT base mg a) (G__law_is_name : FnOk P w K mg base CX0 1 a.f__law_is_name a.fd__law_is_name ["word"] (spLname)) : FnOk P w K mg base CX0 4 a.f__law_signature_due a.fd__law_signature_due ["known", "unknown"] (spDueS K) := by
  refine T.F__law_signature_due.ok sc__law_signature_due (fun vs H Q E h => ?_) (fun A outer s H vs Q E hr h => ?_)
  · obtain ⟨q, p, kn, un, us, ws, rfl, _⟩ := h
    rfl
  · obtain ⟨q, p, kn, un, us, ws, rfl, hq, hp, D1, D2, k⟩ := h
    refine ⟨_, (pss_cons (ps_set (i := 2) sc__law_signature_due.nd rfl (.inr rfl) (pe_op op_cat (pv 0) (pv 1)))
 (pss_cons (ps_if (PW.pt (pw_or (pt_not (pt_chain op_le op_le pe_int (pe_callB (Gx.call_len_seqK (K := K) rfl) rfl T.len (by decide +kernel) (pa_cons (pv 0) pa_nil)) pe_int)) (pw_or1 (pt_not (pt_chain op_le op_le pe_int (pe_callB (Gx.call_len_seqK (K := K) rfl) rfl T.len (by decide +kernel) (pa_cons (pv 1) pa_nil)) pe_int)))))
  (pss_one (ps_ret pe_str))
  pss_nil)
 (pss_cons (ps_if (pt_cmpR (Gx.op_neDK (K := K) rfl hr.units) (pe_lc (own := [("name", 3), ("places", 4)]) rfl sc__law_signature_due.nd (Gx.pi_listK (K := K) rfl (pv 2)) (blkOk_by (own := [("name", 3), ("places", 4)]) (N := ["known", "unknown", "rows", "name", "places", "k"]) (sc := defScope s__law_signature_due) (by decide +kernel)) (fun _ _ _ _ _ => (Gx.pg_tupK (K := K) rfl (n := 2) rfl (pgs_cons (pg_name (i := 3) sc__law_signature_due.nd rfl (.inl rfl)) (pgs_cons (pg_name (i := 4) sc__law_signature_due.nd rfl (.inl rfl)) pgs_nil)))) (fun _ _ _ _ _ => (pts_one (pt_not (pt_val (pe_call G__law_is_name (hr.mono (by decide)) rfl T.g__law_is_name T.F__law_is_name.kp T.b__law_is_name .nil pass0 (pa_cons (pv 3) pa_nil)))))) (fun _ _ _ _ _ => (pv 3))) (pe_lst pa_nil) (nomark _))
  (pss_one (ps_ret pe_str))
  pss_nil)
 (pss_cons (ps_if (pt_cmpR (Gx.op_neDK (K := K) rfl hr.units) (pe_lc (own := [("k", 5)]) rfl sc__law_signature_due.nd (pi_range1 rfl T.range (pa_cons (pe_callB (Gx.call_len_seqK (K := K) rfl) rfl T.len (by decide +kernel) (pa_cons (pv 2) pa_nil)) pa_nil)) (blkOk_by (own := [("k", 5)]) (N := ["known", "unknown", "rows", "name", "places", "k"]) (sc := defScope s__law_signature_due) (by decide +kernel)) (fun _ _ _ _ _ => (pg_name (i := 5) sc__law_signature_due.nd rfl (.inl rfl))) (fun _ _ _ _ _ => (pts_one (pt_cmpR (Gx.op_in_seqK (K := K) rfl) (pe_ix (Gx.ix_tupK (K := K) rfl) (pe_ix (Gx.ix_listK (K := K) rfl) (pv 2) (pv 5) (fun _ _ => rfl)) pe_int (fun _ _ => rfl)) (pe_lc (own := [("name", 3), ("places", 4)]) rfl sc__law_signature_due.nd (Gx.pi_listK (K := K) rfl (pe_slice (Gx.sl_listK (K := K) rfl) (pv 2) po_none (po_some (pv 5)))) (blkOk_by (own := [("name", 3), ("places", 4)]) (N := ["known", "unknown", "rows", "name", "places", "k"]) (sc := ({ kind := .function, names := [(".0", NameKind.local), ("k", NameKind.local), ("rows", NameKind.cell)], isGenerator := false, isCoroutine := false, more := [] } : Scope)) (by decide +kernel)) (fun _ _ _ _ _ => (Gx.pg_tupK (K := K) rfl (n := 2) rfl (pgs_cons (pg_name (i := 3) sc__law_signature_due.nd rfl (.inl rfl)) (pgs_cons (pg_name (i := 4) sc__law_signature_due.nd rfl (.inl rfl)) pgs_nil)))) (fun _ _ _ _ _ => pts_nil) (fun _ _ _ _ _ => (pv 3))) (by rfl)))) (fun _ _ _ _ _ => (pv 5))) (pe_lst pa_nil) (nomark _))
  (pss_one (ps_ret pe_str))
  pss_nil)
 (pss_cons (ps_if (pt_cmpR (Gx.op_neDK (K := K) rfl hr.units) (pe_lc (own := [("name", 3), ("places", 4)]) rfl sc__law_signature_due.nd (Gx.pi_listK (K := K) rfl (pv 2)) (blkOk_by (own := [("name", 3), ("places", 4)]) (N := ["known", "unknown", "rows", "name", "places", "k"]) (sc := defScope s__law_signature_due) (by decide +kernel)) (fun _ _ _ _ _ => (Gx.pg_tupK (K := K) rfl (n := 2) rfl (pgs_cons (pg_name (i := 3) sc__law_signature_due.nd rfl (.inl rfl)) (pgs_cons (pg_name (i := 4) sc__law_signature_due.nd rfl (.inl rfl)) pgs_nil)))) (fun _ _ _ _ _ => (pts_one (pt_not (pt_chain op_le op_le pe_int (pv 4) pe_int)))) (fun _ _ _ _ _ => (pv 4))) (pe_lst pa_nil) (nomark _))
  (pss_one (ps_ret pe_str))
  pss_nil)
 (pss_one (ps_ret pe_non))))))), ?_⟩
    have hn1 := D1.n
    have hn2 := D2.n
    refine ⟨_, rfl, _, rfl, q, p, us, ws, rfl, rfl, hq, hp, ?_, fun l hl0 => ?_⟩
    · rw [D1.len, D2.len]
      exact Nat.le_trans (Nat.add_le_add hn1 hn2) (by decide)
    have x1 := Xt.new (o := .lst (us ++ ws)) hl0
    have hl : (upd H l (.lst (us ++ ws))) l = some (.lst (us ++ ws)) := upd_same ..
    generalize upd H l (.lst (us ++ ws)) = H1 at x1 hl
    have hR : ∀ H2, Xt H1 H2 → NkA K H2 ((kn ++ un).map rk) (us ++ ws) := fun H2 x => by
      rw [List.map_append]
      exact nkA_app ((D1.xt (x1.trans x)).k) ((D2.xt (x1.trans x)).k)
    have hlen : (us ++ ws).length = (kn ++ un).length := by rw [List.length_append, List.length_append, D1.len, D2.len]
    have hw : ∀ r ∈ kn ++ un, Wd r.1 := fun r hr => (List.mem_append.mp hr).elim (D1.w r) (D2.w r)
    have hsz : (kn ++ un).length ≤ 200 := by rw [List.length_append]; omega
    have e1 : ((us.length : Nat) : Int) = (kn.length : Int) := by rw [D1.len]
    have e2 : ((ws.length : Nat) : Int) = (un.length : Int) := by rw [D2.len]
    refine rd_chain (m := (us.length : Int)) (fun Q q0 => rd_lenL rfl (D1.xt x1).l Q q0) ?_
    rw [e1]
    have hb1 : (decide ((1 : Int) ≤ (kn.length : Int)) && decide ((kn.length : Int) ≤ 6)) = lenB 6 kn.length := rfl
    have hb2 : (decide ((1 : Int) ≤ (un.length : Int)) && decide ((un.length : Int) ≤ 3)) = lenB 3 un.length := rfl
    rw [hb1]
    refine ite2 (fun h1 => ?_) (fun h1 => ?_)
    · exact iteT (show Q (optV (some (Str.ofString "count"))) H1 from valO (by unfold sigF; rw [h1, Bool.true_or] <;> rfl) (k _ x1))
    have h1' : lenB 6 kn.length = true := by simpa using h1
    refine rd_chain (m := (ws.length : Int)) (fun Q q0 => rd_lenL rfl (D2.xt x1).l Q q0) ?_
    rw [e2, hb2]
    refine ite2 (fun h2 => ?_) (fun h2 => ?_)
    · exact show Q (optV (some (Str.ofString "count"))) H1 from valO (by unfold sigF; rw [h2, Bool.or_true] <;> rfl) (k _ x1)
    have h2' : lenB 3 un.length = true := by simpa using h2
    have s0 : sigF kn un = (if !((kn ++ un).map (·.1)).all nameB then some (Str.ofString "name") else if !decide ((kn ++ un).map (·.1)).Nodup then some (Str.ofString "twice") else if !(kn ++ un).all plB then some (Str.ofString "places") else none : Option Str) := by
      unfold sigF
      rw [h1', h2']
      rfl
    refine ⟨_, rfl, l, rfl, ⟨_, .inl (.inl hl)⟩, fun D hD => lcf_by (kn ++ un) (fun r => !nameB r.1) (fun r => .str r.1) hlen (.inl (.inl hl)) hD (Nat.le_trans hsz (by decide)) (fun i v r hv hr' H' Y N xt k1 k2 => ?_) (fun H3 x3 hl3 => ?_)⟩
    · obtain ⟨kr, hk1, hk2⟩ := nkA_at (hR H' xt) hv
      rw [List.getElem?_map, hr'] at hk1
      cases hk1
      obtain ⟨t, rfl, ht⟩ := rk_inv hk2
      exact ⟨t, _, rfl, ht, rfl, _, _, rfl, _, _, rfl, rfl, rfl, _, rfl, r.1, rfl, hw r (List.mem_of_getElem? hr'), fun H6 y6 => ⟨_, rfl, ite2 (fun e => ⟨_, rfl, k1 _ y6 e⟩) (fun e => k2 _ y6 (eq_false_of_ne_true e))⟩⟩
    have en : (((kn ++ un).filter fun r => !nameB r.1).map (·.1)).isEmpty = ((kn ++ un).map (·.1)).all nameB := by
      rw [map_isEmpty, fil_ne, List.all_map]
      rfl
    refine nn_str (ws := ((kn ++ un).filter fun r => !nameB r.1).map (·.1)) (by rw [hl3, List.map_map]; rfl) (fun x hx => ?_) (fun H4 x4 => ?_)
    · obtain ⟨r, hr2, rfl⟩ := List.mem_map.mp hx
      exact hw r (List.mem_filter.mp hr2).1
    rw [en]
    replace x4 := x3.trans x4
    refine ⟨_, rfl, ite2 (fun h3 => ?_) (fun h3 => ?_)⟩
    · exact show Q (optV (some (Str.ofString "name"))) H4 from valO (by rw [s0, not_tt h3] <;> rfl) (k _ (x1.trans x4))
    have h3' : ((kn ++ un).map (·.1)).all nameB = true := by
      cases e : ((kn ++ un).map (·.1)).all nameB
      · rw [e] at h3; exact absurd rfl h3
      · rfl
    have hl4 : H4 l = some (.lst (us ++ ws)) := x4.lst hl
    let nm : Nat → Bool := fun i => (((kn ++ un).map (·.1))[i]?).elim false fun x => decide (x ∈ ((kn ++ un).map (·.1)).take i)
    refine ⟨_, rfl, l, _, rfl, .inl (.inl (.inl hl4)), ((us ++ ws).length : Int), rfl, by omega, by omega, fun D2 hD2 => lcf_rng (m := (us ++ ws).length) nm (fun i => .int i) hD2 (by rw [hlen]; exact Nat.le_trans hsz (by decide)) (fun i hi H' Y N xt k1 k2 => ?_) (fun H5 x5 hl5 => ?_)⟩
    · have hik : i < (kn ++ un).length := by rw [← hlen]; exact hi
      have hl6 := xt.lst hl4
      have hv := List.getElem?_eq_getElem hi
      obtain ⟨kr, hk1, hk2⟩ := nkA_at (hR H' (x4.trans xt)) hv
      rw [List.getElem?_map, List.getElem?_eq_getElem hik] at hk1
      cases hk1
      obtain ⟨t, et, ht⟩ := rk_inv hk2
      refine ⟨rfl, _, rfl, _, rfl, l, _, (i : Int), _, rfl, rfl, .inl (.inl hl6), atI_nat hv, t, _, 0, .str ((kn ++ un)[i]).1, et, rfl, ht, atI_nat (j := 0) rfl, ?_⟩
      refine ⟨_, rfl, _, rfl, (i : Int), rfl, l, _, rfl, .inl (.inl hl6), fun pp hpp => ?_⟩
      rw [cut_take]
      have xp := Xt.new (o := .lst ((us ++ ws).take i)) hpp
      have hp2 : (upd H' pp (.lst ((us ++ ws).take i))) pp = some (.lst ((us ++ ws).take i)) := upd_same ..
      generalize upd H' pp (.lst ((us ++ ws).take i)) = H6 at xp hp2
      have hn : ((kn ++ un).map (·.1))[i]? = some ((kn ++ un)[i]).1 := by rw [List.getElem?_map, List.getElem?_eq_getElem hik]; rfl
      have hnm : nm i = decide (((kn ++ un)[i]).1 ∈ ((kn ++ un).map (·.1)).take i) := by
        show ((((kn ++ un).map (·.1))[i]?).elim false fun x => decide (x ∈ ((kn ++ un).map (·.1)).take i)) = _
        rw [hn]; rfl
      have hRt : ∀ H2, Xt H1 H2 → NkA K H2 (((kn ++ un).take i).map rk) ((us ++ ws).take i) := fun H2 x => by
        rw [List.map_take]
        exact nkA_take i (hR H2 x)
      refine ⟨pp, rfl, ⟨_, .inl (.inl hp2)⟩, fun D3 hD3 => lcf_by ((kn ++ un).take i) (fun _ => true) (fun r => .str r.1) (by rw [List.length_take, List.length_take, hlen]) (.inl (.inl hp2)) hD3 (by rw [List.length_take]; exact Nat.le_trans (Nat.min_le_right ..) (Nat.le_trans hsz (by decide))) (fun j v r hv hr' H7 Y2 N2 xt2 kk1 kk2 => ?_) (fun H7 x7 hl7 => ?_)⟩
      · obtain ⟨kr, hk1, hk2⟩ := nkA_at (hRt H7 (((x4.trans xt).trans xp).trans xt2)) hv
        rw [List.getElem?_map, hr'] at hk1
        cases hk1
        obtain ⟨t2, rfl, ht2⟩ := rk_inv hk2
        exact ⟨t2, _, rfl, ht2, rfl, _, _, rfl, _, _, rfl, rfl, rfl, _, rfl, kk1 _ (Xt.refl _) rfl⟩
      · have hf : (((kn ++ un).take i).filter fun _ => true) = (kn ++ un).take i := List.filter_eq_self.mpr fun _ _ => rfl
        rw [hf] at hl7
        have hl7' : H7 D3 = some (.lst ((((kn ++ un).map (·.1)).take i).map V.str)) := by rw [hl7, ← List.map_take, List.map_map]; rfl
        refine ⟨D3, _, rfl, .inl (.inl (.inl hl7')), rfl, flat_strs _, _, rfl, ?_⟩
        have ei : (if false = true then !inV (.str ((kn ++ un)[i]).1) ((((kn ++ un).map (·.1)).take i).map V.str) else inV (.str ((kn ++ un)[i]).1) ((((kn ++ un).map (·.1)).take i).map V.str)) = nm i := by
          rw [if_neg Bool.false_ne_true, in_strs, hnm]
        rw [ei]
        exact ite2 (fun e => ⟨_, rfl, k1 _ (xp.trans x7) e⟩) (fun e => k2 _ (xp.trans x7) (eq_false_of_ne_true e))
    · have et : ((List.range (us ++ ws).length).filter nm).isEmpty = decide ((kn ++ un).map (·.1)).Nodup := by
        have el : (us ++ ws).length = ((kn ++ un).map (·.1)).length := by rw [List.length_map, hlen]
        rw [el]
        exact twice_nodup _ nm fun i x hx => by
          show ((((kn ++ un).map (·.1))[i]?).elim false fun x => decide (x ∈ ((kn ++ un).map (·.1)).take i)) = _
          rw [hx]; rfl
      refine nn_int (ws := ((List.range (us ++ ws).length).filter nm).map fun i : Nat => (Int.ofNat i : Int)) (by rw [hl5, List.map_map]; rfl) (fun H6 x6 => ?_)
      rw [map_isEmpty, et]
      replace x6 := (x4.trans x5).trans x6
      refine ⟨_, rfl, ite2 (fun h4 => ?_) (fun h4 => ?_)⟩
      · exact show Q (optV (some (Str.ofString "twice"))) H6 from valO (by rw [s0, h3', not_tt h4] <;> rfl) (k _ (x1.trans x6))
      have h4' : decide ((kn ++ un).map (·.1)).Nodup = true := by
        cases e : decide ((kn ++ un).map (·.1)).Nodup
        · rw [e] at h4; exact absurd rfl h4
        · rfl
      refine ⟨_, rfl, l, rfl, ⟨_, .inl (.inl (x6.lst hl))⟩, fun D4 hD4 => lcf_by (kn ++ un) (fun r => !plB r) (fun r => .int r.2) hlen (.inl (.inl (x6.lst hl))) hD4 (Nat.le_trans hsz (by decide)) (fun i v r hv hr' H' Y N xt k1 k2 => ?_) (fun H7 x7 hl7 => ?_)⟩
      · obtain ⟨kr, hk1, hk2⟩ := nkA_at (hR H' (x6.trans xt)) hv
        rw [List.getElem?_map, hr'] at hk1
        cases hk1
        obtain ⟨t, rfl, ht⟩ := rk_inv hk2
        exact ⟨t, _, rfl, ht, rfl, _, _, rfl, _, _, rfl, rfl, rfl, rd_chain (m := r.2) (fun Q q0 => ⟨_, rfl, q0⟩) (ite2 (fun e => ⟨_, rfl, k1 _ (Xt.refl _) e⟩) (fun e => k2 _ (Xt.refl _) (eq_false_of_ne_true e)))⟩
      · refine nn_int (ws := ((kn ++ un).filter fun r => !plB r).map (·.2)) (by rw [hl7, List.map_map]; rfl) (fun H8 x8 => ?_)
        rw [map_isEmpty, fil_ne]
        replace x8 := (x6.trans x7).trans x8
        refine ⟨_, rfl, ite2 (fun h5 => ?_) (fun h5 => ?_)⟩
        · exact show Q (optV (some (Str.ofString "places"))) H8 from valO (by rw [s0, h3', h4', not_tt h5] <;> rfl) (k _ (x1.trans x8))
        · have h5' : (kn ++ un).all plB = true := by
            cases e : (kn ++ un).all plB
            · rw [e] at h5; exact absurd rfl h5
            · rfl
          exact show Q (optV none) H8 from valO (by rw [s0, h3', h4', h5'] <;> rfl) (k _ (x1.trans x8))

end
end K0
set_option Elab.async false
set_option linter.all false
set_option maxRecDepth 100000
set_option maxHeartbeats 4000000
namespace K0
open PySem PySem.Spec PyProof.Rows L2 Gx

open Lw Sn
/-! ### a signature is made -/
theorem ov_some (r : Str) : (!decide (optV (some r) = V.non)) = true := by
  show (!decide (V.str r = V.non)) = true
  simp
theorem ov_none : (!decide (optV none = V.non)) = false := by
  show (!decide (V.non = V.non)) = false
  simp
def spInitS (K : PySem.W.Frag) (a : Ads) : Sp := fun vs H Q E => ∃ (o dx q p : Addr) (H0 : Hp) (kn un : List (Str × Int)) (us ws : List V), vs = [.ref o, .ref q, .ref p] ∧ H0 o = none ∧ H0 dx = none ∧ dx ≠ o ∧ H = upd (upd H0 dx (.own o)) o (.ins a.C_Signature dx []) ∧
  Rl K H0 q kn us ∧ Rl K H0 p un ws ∧ GxR.TabG H0 a.P_is_name ∧ GxR.TabG H0 a.P_signature_fault ∧
  (∀ r H1 d, sigF kn un = some r → Xt H0 H1 → H1 d = some (.xd [("reason", .str r)]) → E (.ref a.C_InvalidSignature) (some d) H1) ∧
  (∀ H1 l1 l2, sigF kn un = none → Xt H0 H1 → H1 o = some (.ins a.C_Signature dx [("known", .ref l1), ("unknown", .ref l2)]) → H1 l1 = some (.lst us) → H1 l2 = some (.lst ws) → H0 l1 = none → H0 l2 = none → Q .non H1)
def spToldS (K : PySem.W.Frag) (a : Ads) : Sp := fun vs H Q _ => ∃ (q p : Addr) (kn un : List (Str × Int)) (us ws : List V), vs = [.ref q, .ref p] ∧ Rl K H q kn us ∧ Rl K H p un ws ∧ GxR.TabG H a.P_is_name ∧ GxR.TabG H a.P_signature_fault ∧ ∀ H1, Xt H H1 → Q (optV (sigF kn un)) H1
section
variable {P : Program} {w : World} {K : PySem.W.Frag} {mg : Str → Option Value} {base : Heap} {a : Ads}
theorem ok_Signature_init (T : Txt K mg a) (B : TabT base mg a) (G_signature_fault : FnOk P w K mg base CX0 4 a.f_signature_fault a.fd_signature_fault ["known", "unknown"] (spSf K a)) : FnOk P w K mg base (L2.CX P w) 5 a.f_Signature_init a.fd_Signature_init ["self", "known", "unknown"] (spInitS K a) := by
  refine T.F_Signature_init.okX sc_Signature_init (fun vs H Q E h => ?_) (fun A outer s H vs Q E hr h => ?_)
  · obtain ⟨o, dx, q, p, H0, kn, un, us, ws, rfl, _⟩ := h
    rfl
  · obtain ⟨o, dx, q, p, H0, kn, un, us, ws, rfl, ho, hdx, hne, rfl, D1, D2, t1, t2, kE, kQ⟩ := h
    refine ⟨_, (pss_cons (ps_set (i := 3) sc_Signature_init.nd rfl (.inl rfl) (pe_call G_signature_fault (hr.mono (by decide)) rfl T.g_signature_fault T.F_signature_fault.kp T.b_signature_fault .nil pass0 (pa_cons (pv 1) (pa_cons (pv 2) pa_nil))))
 (pss_cons (ps_if (pt_cmpR op_notN (pv 3) pe_non (nomark _))
  (pss_one (Gx.ps_raiseEr rfl T.E_InvalidSignature hr (takes_of rfl rfl rfl rfl) (pa_cons (pv 3) pa_nil) rfl))
  pss_nil)
 (pss_cons (ps_fld (pv 0) (pe_callTy (Gx.call_list_ofK (K := K) rfl) rfl T.list (by decide +kernel) (pa_cons (pv 1) pa_nil)) rfl)
 (pss_one (ps_fld (pv 0) (pe_callTy (Gx.call_list_ofK (K := K) rfl) rfl T.list (by decide +kernel) (pa_cons (pv 2) pa_nil)) rfl))))), ?_⟩
    have x0 : Xt H0 (upd (upd H0 dx (.own o)) o (.ins a.C_Signature dx [])) := (Xt.new hdx).mut ho
    have io : (upd (upd H0 dx (.own o)) o (.ins a.C_Signature dx [])) o = some (.ins a.C_Signature dx []) := upd_same ..
    generalize upd (upd H0 dx (.own o)) o (.ins a.C_Signature dx []) = H1 at x0 io
    refine ⟨_, rfl, _, rfl, q, p, kn, un, us, ws, rfl, D1.xt x0, D2.xt x0, x0.tabG t1, x0.tabG t2, fun H2 x2 => ?_⟩
    have io2 : H2 o = some (.ins a.C_Signature dx []) := x2.keep _ _ io fun _ => nofun
    replace x2 := x0.trans x2
    refine ⟨_, rfl, rfl, _, rfl, ?_⟩
    cases e : sigF kn un with
    | some r =>
      rw [show (!decide (optV (some r) = V.non)) = true from ov_some r]
      exact iteT ⟨_, rfl, _, rfl, fun d hd => kE r _ d e (x2.trans (Xt.new hd)) (upd_same ..)⟩
    | none =>
      rw [show (!decide (optV none = V.non)) = false from ov_none]
      refine iteF ⟨_, rfl, q, us, rfl, .inl (D1.xt x2).l, fun l1 hl1 => ⟨_, rfl, o, _, dx, [], rfl, (Xt.new hl1).keep _ _ io2 fun _ => nofun, T.K_Signature, T.N_Signature_known, by decide, ?_⟩⟩
      have hol1 : l1 ≠ o := fun z => by rw [z, io2] at hl1; cases hl1
      have f1 : H0 l1 = none := x2.free hl1
      have y1 : Xt H0 (upd (upd H2 l1 (.lst us)) o (.ins a.C_Signature dx [("known", .ref l1)])) := (x2.trans (Xt.new hl1)).mut ho
      refine ⟨_, rfl, p, ws, rfl, .inl (D2.xt y1).l, fun l2 hl2 => ⟨_, rfl, o, _, dx, [("known", .ref l1)], rfl, (Xt.new hl2).keep _ _ (upd_same ..) fun _ => nofun, T.K_Signature, T.N_Signature_unknown, by show 1 < 1000; decide, ?_⟩⟩
      have hol2 : l2 ≠ o := fun z => by rw [z, upd_same] at hl2; cases hl2
      have f2 : H0 l2 = none := y1.free hl2
      refine kQ _ l1 l2 e ((y1.trans (Xt.new hl2)).mut ho) (upd_same ..) ?_ ?_ f1 f2
      · rw [upd_ne hol1]
        exact (Xt.new hl2).lst (by rw [upd_ne hol1]; exact upd_same ..)
      · rw [upd_ne hol2]
        exact upd_same ..


theorem ok__law_signature_told (T : Txt K mg a) (B : TabT base mg a) (G_Signature_init : FnOk P w K mg base (L2.CX P w) 5 a.f_Signature_init a.fd_Signature_init ["self", "known", "unknown"] (spInitS K a)) : FnOk P w K mg base CX0 7 a.f__law_signature_told a.fd__law_signature_told ["known", "unknown"] (spToldS K a) := by
  refine T.F__law_signature_told.ok sc__law_signature_told (fun vs H Q E h => ?_) (fun A outer s H vs Q E hr h => ?_)
  · obtain ⟨q, p, kn, un, us, ws, rfl, _⟩ := h
    rfl
  · obtain ⟨q, p, kn, un, us, ws, rfl, D1, D2, t1, t2, k⟩ := h
    refine ⟨_, (pss_cons (Gx.ps_tryC (Wout := fun _ _ _ _ => False) rfl rfl sc__law_signature_told.nd Gx.tk_dead (fun W pn xe tk _ => (pss_one (ps_expr (Gx.pe_makeS T.M_Signature G_Signature_init (hr.mono (by decide)) rfl T.g_Signature T.b_Signature_init (fun σ => passAt tk σ) (pa_cons (pv 0) (pa_cons (pv 1) pa_nil))))))
 (.as_ (i := 2) rfl rfl ⟨rfl, by decide, .inl T.g_InvalidSignature⟩ (fun a1 oe cls d pn hz hf => (pss_one (ps_ret (pe_ifExp (pt_val (pe_callB (Gx.call_isEr T.E_InvalidSignature T.EI_InvalidSignature hz hf) rfl T.isinstance (by decide +kernel) (pa_cons (pv 2) (pa_cons (pe_glob (v := .ref a.C_FewrulesError) rfl T.g_FewrulesError rfl) pa_nil)))) (Gx.pe_erFld T.E_InvalidSignature hz hf (pv 2)) pe_str)))) .nil))
 (pss_one (ps_ret pe_non))), ?_⟩
    refine ⟨_, rfl, _, rfl, fun o dx ho hdx hne => ⟨o, dx, q, p, H, kn, un, us, ws, rfl, ho, hdx, hne, rfl, D1, D2, t1, t2, fun r H1 d e x1 hd => ?_, fun H1 l1 l2 e x1 _ _ _ _ _ => ⟨rfl, ?_⟩⟩⟩
    · refine ⟨_, T.x_InvalidSignature_InvalidSignature, fun _ b hb => ?_, fun z => by cases z⟩
      refine ⟨_, rfl, rfl, .ref a.C_FewrulesError, .ref a.C_FewrulesError, true, d, _, rfl, (fun u hu => hu), rfl, hd, T.k_InvalidSignature_FewrulesError, _, rfl, iteT ⟨_, rfl, rfl, rfl, d, .str r, rfl, hd, ?_⟩⟩
      exact show Q (optV (some r)) H1 from valO e (k _ x1)
    · exact show Q (optV none) H1 from valO e (k _ x1)


end
end K0
set_option Elab.async false
set_option linter.all false
set_option maxRecDepth 100000
set_option maxHeartbeats 4000000
/-! facts and relations as data that is compared -/
namespace Lw
open PySem PySem.Spec PyProof.Rows L2 Gx Sn
def dF (f : Str × List Str) : PyData := .tuple [.str f.1, .tuple (f.2.map .str)]
def dR (r : Str × Int) : PyData := .tuple [.str r.1, .int r.2]
theorem beq_dec (x y : Str) : (x == y) = decide (x = y) := by
  by_cases h : x = y
  · rw [decide_eq_true h, h]; simp
  · rw [decide_eq_false h]; simpa using h
theorem eqv_strs : ∀ a b : List Str, PyData.eqvAll (a.map .str) (b.map .str) = decide (a = b)
  | [], [] => rfl
  | [], _ :: _ => rfl
  | _ :: _, [] => rfl
  | x :: a, y :: b => by
    show ((x == y) && PyData.eqvAll (a.map .str) (b.map .str)) = _
    rw [eqv_strs a b, beq_dec, Bool.eq_iff_iff]
    simp
theorem eqv_dF (f g : Str × List Str) : PyData.eqv (dF f) (dF g) = decide (f = g) := by
  obtain ⟨a, b⟩ := f
  obtain ⟨c, d⟩ := g
  show ((a == c) && (PyData.eqvAll (b.map .str) (d.map .str) && true)) = _
  rw [eqv_strs, beq_dec, Bool.eq_iff_iff]
  simp
theorem eqv_dR (f g : Str × Int) : PyData.eqv (dR f) (dR g) = decide (f = g) := by
  obtain ⟨a, b⟩ := f
  obtain ⟨c, d⟩ := g
  show ((a == c) && ((b == d) && true)) = _
  rw [beq_dec, Bool.eq_iff_iff]
  simp
theorem eqvAll_self : ∀ l : List PyData, (∀ d ∈ l, PyData.eqv d d = true) → PyData.eqvAll l l = true
  | [], _ => rfl
  | d :: l, h => by
    show (PyData.eqv d d && PyData.eqvAll l l) = true
    rw [h d (List.mem_cons_self ..), eqvAll_self l fun e he => h e (List.mem_cons_of_mem _ he)]
    rfl
theorem any_dF (f : Str × List Str) (l : List (Str × List Str)) : ((l.map dF).any fun z => PyData.eqv z (dF f)) = decide (f ∈ l) := by
  rw [List.any_map, Bool.eq_iff_iff, List.any_eq_true, decide_eq_true_iff]
  constructor
  · rintro ⟨g, hg, e⟩
    have e2 : PyData.eqv (dF g) (dF f) = true := e
    rw [eqv_dF, decide_eq_true_iff] at e2
    rw [← e2]; exact hg
  · intro h
    refine ⟨f, h, ?_⟩
    show PyData.eqv (dF f) (dF f) = true
    rw [eqv_dF, decide_eq_true rfl]
section
variable {K : PySem.W.Frag} {H : Hp}
theorem dp_fact {f : Str × List Str} {v : V} (h : NkV K H (fk f) v) : Dp K H v (dF f) := by
  obtain ⟨a, b, rfl, h1, h2⟩ := fk_inv h
  exact .tup h1 (.cons (.str _) (.cons (.tup h2 (dp_strs _)) .nil))
theorem dp_rel {r : Str × Int} {v : V} (h : NkV K H (rk r) v) : Dp K H v (dR r) := by
  obtain ⟨a, rfl, h1⟩ := rk_inv h
  exact .tup h1 (.cons (.str _) (.cons (.int _) .nil))
theorem dp_facts : ∀ {fs : List (Str × List Str)} {vs : List V}, NkA K H (fs.map fk) vs → DpAll K H vs (fs.map dF)
  | [], vs, h => by
    rw [List.map_nil] at h
    unfold NkA at h
    rw [h]; exact .nil
  | f :: fs, vs, h => by
    rw [List.map_cons] at h
    unfold NkA at h
    obtain ⟨v, r, rfl, h1, h2⟩ := h
    exact .cons (dp_fact h1) (dp_facts h2)
theorem dp_rels : ∀ {rs : List (Str × Int)} {vs : List V}, NkA K H (rs.map rk) vs → DpAll K H vs (rs.map dR)
  | [], vs, h => by
    rw [List.map_nil] at h
    unfold NkA at h
    rw [h]; exact .nil
  | f :: fs, vs, h => by
    rw [List.map_cons] at h
    unfold NkA at h
    obtain ⟨v, r, rfl, h1, h2⟩ := h
    exact .cons (dp_rel h1) (dp_rels h2)
end
theorem lay_str {x : Str} (h : Wd x) : PyData.canLay0 (.str x) = true := by
  show (x.cps.all fun z => decide (z < 0x110000)) = true
  rw [Array.all_eq_true_iff_forall_mem]
  intro c hc
  have := h.asc c (by simpa using hc)
  simp; omega
theorem lay_strs {l : List Str} (h : ∀ x ∈ l, Wd x) : PyData.canLayAll0 (l.map .str) = true ∧ PyData.depthAll (l.map .str) = 0 := by
  induction l with
  | nil => exact ⟨rfl, rfl⟩
  | cons x l ih =>
    obtain ⟨h1, h2⟩ := ih fun y hy => h y (List.mem_cons_of_mem _ hy)
    refine ⟨?_, ?_⟩
    · show (PyData.canLay0 (.str x) && PyData.canLayAll0 (l.map .str)) = true
      rw [lay_str (h x (List.mem_cons_self ..)), h1]; rfl
    · show max 0 (PyData.depthAll (l.map .str)) = 0
      rw [h2]; rfl
theorem lay_dF {f : Str × List Str} (h : Wd f.1) (h2 : ∀ x ∈ f.2, Wd x) : (dF f).canLay0 = true ∧ (dF f).depth ≤ 8 := by
  obtain ⟨l1, l2⟩ := lay_strs h2
  refine ⟨?_, ?_⟩
  · show (PyData.canLay0 (.str f.1) && (PyData.canLayAll0 (f.2.map .str) && true)) = true
    rw [lay_str h, l1]; rfl
  · show max 0 (max (PyData.depthAll (f.2.map .str) + 1) 0) + 1 ≤ 8
    rw [l2]; decide
theorem lay_dR {r : Str × Int} (h : Wd r.1) : (dR r).canLay0 = true ∧ (dR r).depth ≤ 8 := by
  refine ⟨?_, ?_⟩
  · show (PyData.canLay0 (.str r.1) && (true && true)) = true
    rw [lay_str h]; rfl
  · show max 0 (max 0 0) + 1 ≤ 8
    decide
/-- the words of a fact -/
def Wf (f : Str × List Str) : Prop := Wd f.1 ∧ (∀ x ∈ f.2, Wd x) ∧ f.2.length ≤ 1000
theorem shp_fact {f : Str × List Str} (h : Wf f) : SeqAt.shaped (dF f) = true := by
  obtain ⟨h1, h2⟩ := lay_dF h.1 h.2.1
  show ((dF f).canLay0 && decide ((dF f).depth ≤ 64)) = true
  rw [h1, decide_eq_true (by omega)]; rfl
theorem shp_facts {fs : List (Str × List Str)} (h : ∀ f ∈ fs, Wf f) : SeqAt.shaped (.list (fs.map dF)) = true := by
  refine shp_list fun d hd => ?_
  obtain ⟨f, hf, rfl⟩ := List.mem_map.mp hd
  exact lay_dF (h f hf).1 (h f hf).2.1
theorem shp_rels {rs : List (Str × Int)} (h : ∀ r ∈ rs, Wd r.1) : SeqAt.shaped (.list (rs.map dR)) = true := by
  refine shp_list fun d hd => ?_
  obtain ⟨f, hf, rfl⟩ := List.mem_map.mp hd
  exact lay_dR (h f hf)
theorem eqv_facts (fs : List (Str × List Str)) : PyData.eqv (.list (fs.map dF)) (.list (fs.map dF)) = true := eqvAll_self _ fun d hd => by
  obtain ⟨f, _, rfl⟩ := List.mem_map.mp hd
  rw [eqv_dF, decide_eq_true rfl]
theorem eqv_rels (rs : List (Str × Int)) : PyData.eqv (.list (rs.map dR)) (.list (rs.map dR)) = true := eqvAll_self _ fun d hd => by
  obtain ⟨f, _, rfl⟩ := List.mem_map.mp hd
  rw [eqv_dR, decide_eq_true rfl]
theorem eqv_texts (l : List Str) : PyData.eqv (.list (l.map .str)) (.list (l.map .str)) = true := by
  show PyData.eqvAll _ _ = true
  rw [eqv_strs, decide_eq_true rfl]
theorem eqv_tnil {l : List PyData} : PyData.eqv (.tuple l) (.tuple []) = l.isEmpty := by cases l <;> rfl
theorem shp_tnil : SeqAt.shaped (.tuple []) = true := by decide
theorem shp_ttexts {l : List Str} (h : ∀ x ∈ l, Wd x) : SeqAt.shaped (.tuple (l.map .str)) = true := by
  obtain ⟨l1, l2⟩ := lay_strs h
  show (PyData.canLayAll0 (l.map .str) && decide (PyData.depthAll (l.map .str) + 1 ≤ 64)) = true
  rw [l1, l2]; rfl
end Lw
set_option Elab.async false
set_option linter.all false
set_option maxRecDepth 100000
set_option maxHeartbeats 4000000
namespace K0
open PySem PySem.Spec PyProof.Rows L2 Gx

open Lw Sn
/-! ### a world is made -/
def dueW (cs : List Str) (fs : List (Str × List Str)) : Option Str := if 200 < fs.length then some (Str.ofString "large facts") else worldF cs fs
def spInitW (K : PySem.W.Frag) (a : Ads) : Sp := fun vs H Q E => ∃ (o dx q p : Addr) (H0 : Hp) (cs : List Str) (fs : List (Str × List Str)) (us : List V), vs = [.ref o, .ref q, .ref p] ∧ H0 o = none ∧ H0 dx = none ∧ dx ≠ o ∧ H = upd (upd H0 dx (.own o)) o (.ins a.C_World dx []) ∧
  CsFs K H0 q p cs fs us ∧ GxR.TabG H0 a.P_is_name ∧ GxR.TabG H0 a.P_is_about ∧ GxR.TabG H0 a.P_world_fault ∧
  (∀ H1 d, 200 < fs.length → Xt H0 H1 → H1 d = some (.xd [("limit", .str (Str.ofString "facts"))]) → E (.ref a.C_TooLarge) (some d) H1) ∧
  (∀ r H1 d, ¬ 200 < fs.length → worldF cs fs = some r → Xt H0 H1 → H1 d = some (.xd [("reason", .str r)]) → E (.ref a.C_InvalidWorld) (some d) H1) ∧
  (∀ H1 l1 l2, ¬ 200 < fs.length → worldF cs fs = none → Xt H0 H1 → H1 o = some (.ins a.C_World dx [("constants", .ref l1), ("facts", .ref l2)]) → H1 l1 = some (.lst (cs.map V.str)) → H1 l2 = some (.lst us) → H0 l1 = none → H0 l2 = none → Q .non H1)
def spToldW (K : PySem.W.Frag) (a : Ads) : Sp := fun vs H Q _ => ∃ (q p : Addr) (cs : List Str) (fs : List (Str × List Str)) (us : List V), vs = [.ref q, .ref p] ∧ CsFs K H q p cs fs us ∧ GxR.TabG H a.P_is_name ∧ GxR.TabG H a.P_is_about ∧ GxR.TabG H a.P_world_fault ∧ ∀ H1, Xt H H1 → Q (optV (dueW cs fs)) H1
theorem CsFs.len {K : PySem.W.Frag} {H : Hp} {q p : Addr} {cs : List Str} {fs : List (Str × List Str)} {vs : List V} (h : CsFs K H q p cs fs vs) : vs.length = fs.length := by rw [nkA_len h.k, List.length_map]
section
variable {P : Program} {w : World} {K : PySem.W.Frag} {mg : Str → Option Value} {base : Heap} {a : Ads}
theorem ok_World_init (T : Txt K mg a) (B : TabT base mg a) (G_world_fault : FnOk P w K mg base CX0 4 a.f_world_fault a.fd_world_fault ["constants", "facts"] (spWf K a)) : FnOk P w K mg base (L2.CX P w) 5 a.f_World_init a.fd_World_init ["self", "constants", "facts"] (spInitW K a) := by
  refine T.F_World_init.okX sc_World_init (fun vs H Q E h => ?_) (fun A outer s H vs Q E hr h => ?_)
  · obtain ⟨o, dx, q, p, H0, cs, fs, us, rfl, _⟩ := h
    rfl
  · obtain ⟨o, dx, q, p, H0, cs, fs, us, rfl, ho, hdx, hne, rfl, D, t1, t2, t3, kL, kE, kQ⟩ := h
    refine ⟨_, (pss_cons (ps_if (pt_cmpR op_gt (pe_callB (Gx.call_len_seqK (K := K) rfl) rfl T.len (by decide +kernel) (pa_cons (pv 2) pa_nil)) (Gx.pe_gcon rfl T.m_MOST_FACTS) (nomark _))
  (pss_one (Gx.ps_raiseEr rfl T.E_TooLarge hr (takes_of rfl rfl rfl rfl) (pa_cons pe_str pa_nil) rfl))
  pss_nil)
 (pss_cons (ps_set (i := 3) sc_World_init.nd rfl (.inl rfl) (pe_call G_world_fault (hr.mono (by decide)) rfl T.g_world_fault T.F_world_fault.kp T.b_world_fault .nil pass0 (pa_cons (pv 1) (pa_cons (pv 2) pa_nil))))
 (pss_cons (ps_if (pt_cmpR op_notN (pv 3) pe_non (nomark _))
  (pss_one (Gx.ps_raiseEr rfl T.E_InvalidWorld hr (takes_of rfl rfl rfl rfl) (pa_cons (pv 3) pa_nil) rfl))
  pss_nil)
 (pss_cons (ps_fld (pv 0) (pe_callTy (Gx.call_list_ofK (K := K) rfl) rfl T.list (by decide +kernel) (pa_cons (pv 1) pa_nil)) rfl)
 (pss_one (ps_fld (pv 0) (pe_callTy (Gx.call_list_ofK (K := K) rfl) rfl T.list (by decide +kernel) (pa_cons (pv 2) pa_nil)) rfl)))))), ?_⟩
    have x0 : Xt H0 (upd (upd H0 dx (.own o)) o (.ins a.C_World dx [])) := (Xt.new hdx).mut ho
    have io : (upd (upd H0 dx (.own o)) o (.ins a.C_World dx [])) o = some (.ins a.C_World dx []) := upd_same ..
    generalize upd (upd H0 dx (.own o)) o (.ins a.C_World dx []) = H1 at x0 io
    refine ⟨_, rfl, p, us, rfl, .inl (D.xt x0).f, _, _, rfl, rfl, _, rfl, ite2 (fun hb => ?_) (fun hb => ?_)⟩
    · have hb' : 200 < fs.length := by
        have h : (200 : Int) < (us.length : Int) := of_decide_eq_true hb
        rw [D.len] at h
        omega
      exact ⟨_, rfl, fun d hd => kL _ d hb' (x0.trans (Xt.new hd)) (upd_same ..)⟩
    have hb' : ¬ 200 < fs.length := fun z => hb (decide_eq_true (by rw [D.len]; omega))
    refine ⟨_, rfl, _, rfl, q, p, cs, fs, us, rfl, D.xt x0, by omega, x0.tabG t1, x0.tabG t2, x0.tabG t3, fun H2 x2 => ?_⟩
    have io2 : H2 o = some (.ins a.C_World dx []) := x2.keep _ _ io fun _ => nofun
    replace x2 := x0.trans x2
    refine ⟨_, rfl, rfl, _, rfl, ?_⟩
    cases e : worldF cs fs with
    | some r =>
      rw [show (!decide (optV (some r) = V.non)) = true from ov_some r]
      exact iteT ⟨_, rfl, _, rfl, fun d hd => kE r _ d hb' e (x2.trans (Xt.new hd)) (upd_same ..)⟩
    | none =>
      rw [show (!decide (optV none = V.non)) = false from ov_none]
      refine iteF ⟨_, rfl, q, cs.map V.str, rfl, .inl (D.xt x2).c, fun l1 hl1 => ⟨_, rfl, o, _, dx, [], rfl, (Xt.new hl1).keep _ _ io2 fun _ => nofun, T.K_World, T.N_World_constants, by decide, ?_⟩⟩
      have hol1 : l1 ≠ o := fun z => by rw [z, io2] at hl1; cases hl1
      have f1 : H0 l1 = none := x2.free hl1
      have y1 : Xt H0 (upd (upd H2 l1 (.lst (cs.map V.str))) o (.ins a.C_World dx [("constants", .ref l1)])) := (x2.trans (Xt.new hl1)).mut ho
      refine ⟨_, rfl, p, us, rfl, .inl (D.xt y1).f, fun l2 hl2 => ⟨_, rfl, o, _, dx, [("constants", .ref l1)], rfl, (Xt.new hl2).keep _ _ (upd_same ..) fun _ => nofun, T.K_World, T.N_World_facts, by show 1 < 1000; decide, ?_⟩⟩
      have hol2 : l2 ≠ o := fun z => by rw [z, upd_same] at hl2; cases hl2
      have f2 : H0 l2 = none := y1.free hl2
      refine kQ _ l1 l2 hb' e ((y1.trans (Xt.new hl2)).mut ho) (upd_same ..) ?_ ?_ f1 f2
      · rw [upd_ne hol1]
        exact (Xt.new hl2).lst (by rw [upd_ne hol1]; exact upd_same ..)
      · rw [upd_ne hol2]
        exact upd_same ..


theorem ok__law_world_told (T : Txt K mg a) (B : TabT base mg a) (G_World_init : FnOk P w K mg base (L2.CX P w) 5 a.f_World_init a.fd_World_init ["self", "constants", "facts"] (spInitW K a)) : FnOk P w K mg base CX0 7 a.f__law_world_told a.fd__law_world_told ["constants", "facts"] (spToldW K a) := by
  refine T.F__law_world_told.ok sc__law_world_told (fun vs H Q E h => ?_) (fun A outer s H vs Q E hr h => ?_)
  · obtain ⟨q, p, cs, fs, us, rfl, _⟩ := h
    rfl
  · obtain ⟨q, p, cs, fs, us, rfl, D, t1, t2, t3, k⟩ := h
    refine ⟨_, (pss_cons (Gx.ps_tryC (Wout := fun _ _ _ _ => False) rfl rfl sc__law_world_told.nd Gx.tk_dead (fun W pn xe tk _ => (pss_one (ps_expr (Gx.pe_makeS T.M_World G_World_init (hr.mono (by decide)) rfl T.g_World T.b_World_init (fun σ => passAt tk σ) (pa_cons (pv 0) (pa_cons (pv 1) pa_nil))))))
 (.as_ (i := 2) rfl rfl ⟨rfl, by decide, .inl T.g_InvalidWorld⟩ (fun a1 oe cls d pn hz hf => (pss_one (ps_ret (pe_ifExp (pt_val (pe_callB (Gx.call_isEr T.E_InvalidWorld T.EI_InvalidWorld hz hf) rfl T.isinstance (by decide +kernel) (pa_cons (pv 2) (pa_cons (pe_glob (v := .ref a.C_FewrulesError) rfl T.g_FewrulesError rfl) pa_nil)))) (Gx.pe_erFld T.E_InvalidWorld hz hf (pv 2)) pe_str)))) (.as_ (i := 2) rfl rfl ⟨rfl, by decide, .inl T.g_TooLarge⟩ (fun a1 oe cls d pn hz hf => (pss_one (ps_ret (pe_op op_add_str pe_str (Gx.pe_erFld T.E_TooLarge hz hf (pv 2)))))) .nil)))
 (pss_one (ps_ret pe_non))), ?_⟩
    refine ⟨_, rfl, _, rfl, fun o dx ho hdx hne => ⟨o, dx, q, p, H, cs, fs, us, rfl, ho, hdx, hne, rfl, D, t1, t2, t3, fun H1 d hb x1 hd => ?_, fun r H1 d hb e x1 hd => ?_, fun H1 l1 l2 hb e x1 _ _ _ _ _ => ⟨rfl, ?_⟩⟩⟩
    · refine ⟨_, T.x_TooLarge_InvalidWorld, (fun z => by cases z), fun _ => ⟨_, T.x_TooLarge_TooLarge, fun _ b hb2 => ?_, fun z => by cases z⟩⟩
      refine ⟨_, rfl, rfl, rfl, d, .str (Str.ofString "facts"), rfl, hd, _, _, rfl, rfl, by decide, ?_⟩
      have e : dueW cs fs = some (Str.ofString "large facts") := if_pos hb
      exact show Q (optV (some (Str.ofString "large facts"))) H1 from valO e (k _ x1)
    · refine ⟨_, T.x_InvalidWorld_InvalidWorld, fun _ b hb2 => ?_, fun z => by cases z⟩
      refine ⟨_, rfl, rfl, .ref a.C_FewrulesError, .ref a.C_FewrulesError, true, d, _, rfl, (fun u hu => hu), rfl, hd, T.k_InvalidWorld_FewrulesError, _, rfl, iteT ⟨_, rfl, rfl, rfl, d, .str r, rfl, hd, ?_⟩⟩
      have e2 : dueW cs fs = some r := (if_neg hb).trans e
      exact show Q (optV (some r)) H1 from valO e2 (k _ x1)
    · have e2 : dueW cs fs = none := (if_neg hb).trans e
      exact show Q (optV none) H1 from valO e2 (k _ x1)


end
end K0
set_option Elab.async false
set_option linter.all false
set_option maxRecDepth 100000
set_option maxHeartbeats 4000000
namespace K0
open PySem PySem.Spec PyProof.Rows L2 Gx

open Lw Sn
/-! ### what the law says of a world -/
def spDueW (K : PySem.W.Frag) : Sp := fun vs H Q _ => ∃ (q p : Addr) (cs : List Str) (fs : List (Str × List Str)) (us : List V), vs = [.ref q, .ref p] ∧ CsFs K H q p cs fs us ∧ fs.length ≤ 2000 ∧ (∀ f ∈ fs, Wf f) ∧ ∀ H1, Xt H H1 → Q (optV (dueW cs fs)) H1
theorem tt_of {b : Bool} (h : ¬ (!b) = true) : b = true := by
  cases b
  · exact absurd rfl h
  · rfl
theorem fil_strs (cs : List Str) : ∀ l : List Str, (l.map V.str).filter (fun v => !strIn cs v) = (l.filter fun c => !decide (c ∈ cs)).map V.str
  | [] => rfl
  | x :: l => by
    rw [List.map_cons, List.filter_cons, List.filter_cons, fil_strs cs l]
    show (if (!decide (x ∈ cs)) = true then _ else _) = _
    split <;> rfl
section
variable {P : Program} {w : World} {K : PySem.W.Frag} {mg : Str → Option Value} {base : Heap} {a : Ads}
theorem ok__law_world_due (T : Txt K mg a) (B : TabT base mg a) (G__law_is_name : FnOk P w K mg base CX0 1 a.f__law_is_name a.fd__law_is_name ["word"] (spLname)) : FnOk P w K mg base CX0 4 a.f__law_world_due a.fd__law_world_due ["constants", "facts"] (spDueW K) := by
  refine T.F__law_world_due.ok sc__law_world_due (fun vs H Q E h => ?_) (fun A outer s H vs Q E hr h => ?_)
  · obtain ⟨q, p, cs, fs, us, rfl, _⟩ := h
    rfl
  · obtain ⟨q, p, cs, fs, us, rfl, D, hn, hw, k⟩ := h
    refine ⟨_, (pss_cons (ps_if (pt_cmpR op_gt (pe_callB (Gx.call_len_seqK (K := K) rfl) rfl T.len (by decide +kernel) (pa_cons (pv 1) pa_nil)) pe_int (nomark _))
  (pss_one (ps_ret pe_str))
  pss_nil)
 (pss_cons (ps_if (pt_not (pt_chain op_le op_le pe_int (pe_callB (Gx.call_len_seqK (K := K) rfl) rfl T.len (by decide +kernel) (pa_cons (pv 0) pa_nil)) pe_int))
  (pss_one (ps_ret pe_str))
  pss_nil)
 (pss_cons (ps_if (pt_cmpR (Gx.op_neDK (K := K) rfl hr.units) (pe_lc (own := [("constant", 4)]) rfl sc__law_world_due.nd (Gx.pi_listK (K := K) rfl (pv 0)) (blkOk_by (own := [("constant", 4)]) (N := ["constants", "facts", "name", "row", "constant", "k"]) (sc := defScope s__law_world_due) (by decide +kernel)) (fun _ _ _ _ _ => (pg_name (i := 4) sc__law_world_due.nd rfl (.inl rfl))) (fun _ _ _ _ _ => (pts_one (pt_not (pt_val (pe_call G__law_is_name (hr.mono (by decide)) rfl T.g__law_is_name T.F__law_is_name.kp T.b__law_is_name .nil pass0 (pa_cons (pv 4) pa_nil)))))) (fun _ _ _ _ _ => (pv 4))) (pe_lst pa_nil) (nomark _))
  (pss_one (ps_ret pe_str))
  pss_nil)
 (pss_cons (ps_if (pt_cmpR (Gx.op_neDK (K := K) rfl hr.units) (pe_lc (own := [("k", 5)]) rfl sc__law_world_due.nd (pi_range1 rfl T.range (pa_cons (pe_callB (Gx.call_len_seqK (K := K) rfl) rfl T.len (by decide +kernel) (pa_cons (pv 0) pa_nil)) pa_nil)) (blkOk_by (own := [("k", 5)]) (N := ["constants", "facts", "name", "row", "constant", "k"]) (sc := defScope s__law_world_due) (by decide +kernel)) (fun _ _ _ _ _ => (pg_name (i := 5) sc__law_world_due.nd rfl (.inl rfl))) (fun _ _ _ _ _ => (pts_one (pt_cmpR (Gx.op_in_seqK (K := K) rfl) (pe_ix (Gx.ix_listK (K := K) rfl) (pv 0) (pv 5) (fun _ _ => rfl)) (pe_slice (Gx.sl_listK (K := K) rfl) (pv 0) po_none (po_some (pv 5))) (by rfl)))) (fun _ _ _ _ _ => (pv 5))) (pe_lst pa_nil) (nomark _))
  (pss_one (ps_ret pe_str))
  pss_nil)
 (pss_cons (ps_for PassesOwn.never rfl (Gx.pi_listK (K := K) rfl (pv 1)) (Gx.pg_tupK (K := K) rfl (n := 2) rfl (pgs_cons (pg_name (i := 2) sc__law_world_due.nd rfl (.inl rfl)) (pgs_cons (pg_name (i := 3) sc__law_world_due.nd rfl (.inl rfl)) pgs_nil)))
  (pss_one (ps_if (PW.pt (pw_or (pt_cmpR (Gx.op_eqDK (K := K) rfl hr.units) (pv 3) (pe_tup pa_nil) (nomark _)) (pw_or1 (pt_cmpR (Gx.op_neDK (K := K) rfl hr.units) (pe_lc (own := [("constant", 4)]) rfl sc__law_world_due.nd (Gx.pi_tupK (K := K) rfl (pv 3)) (blkOk_by (own := [("constant", 4)]) (N := ["constants", "facts", "name", "row", "constant", "k"]) (sc := defScope s__law_world_due) (by decide +kernel)) (fun _ _ _ _ _ => (pg_name (i := 4) sc__law_world_due.nd rfl (.inl rfl))) (fun _ _ _ _ _ => (pts_one (pt_cmpR (Gx.op_notIn_seqK (K := K) rfl) (pv 4) (pv 0) (by rfl)))) (fun _ _ _ _ _ => (pv 4))) (pe_lst pa_nil) (nomark _)))))
  (pss_one (ps_ret pe_str))
  pss_nil)))
 (pss_cons (ps_if (pt_cmpR (Gx.op_neDK (K := K) rfl hr.units) (pe_lc (own := [("k", 5)]) rfl sc__law_world_due.nd (pi_range1 rfl T.range (pa_cons (pe_callB (Gx.call_len_seqK (K := K) rfl) rfl T.len (by decide +kernel) (pa_cons (pv 1) pa_nil)) pa_nil)) (blkOk_by (own := [("k", 5)]) (N := ["constants", "facts", "name", "row", "constant", "k"]) (sc := defScope s__law_world_due) (by decide +kernel)) (fun _ _ _ _ _ => (pg_name (i := 5) sc__law_world_due.nd rfl (.inl rfl))) (fun _ _ _ _ _ => (pts_one (pt_cmpR (Gx.op_inDK (K := K) rfl hr.u65) (pe_ix (Gx.ix_listK (K := K) rfl) (pv 1) (pv 5) (fun _ _ => rfl)) (pe_slice (Gx.sl_listK (K := K) rfl) (pv 1) po_none (po_some (pv 5))) (by rfl)))) (fun _ _ _ _ _ => (pv 5))) (pe_lst pa_nil) (nomark _))
  (pss_one (ps_ret pe_str))
  pss_nil)
 (pss_one (ps_ret pe_non)))))))), ?_⟩
    have hz : 4000 ≤ sizeLine := by decide
    have hn4 := D.n
    refine ⟨_, rfl, p, us, rfl, .inl D.f, _, _, rfl, rfl, _, rfl, ite2 (fun hb => ?_) (fun hb => ?_)⟩
    · have hb' : 200 < fs.length := by
        have h : (200 : Int) < (us.length : Int) := of_decide_eq_true hb
        rw [D.len] at h
        omega
      exact show Q (optV (some (Str.ofString "large facts"))) H from valO (if_pos hb') (k _ (Xt.refl H))
    have hb' : ¬ 200 < fs.length := fun z => hb (decide_eq_true (by rw [D.len]; omega))
    have s00 : dueW cs fs = worldF cs fs := if_neg hb'
    refine rd_chain (m := ((cs.map V.str).length : Int)) (fun Q q0 => rd_lenL rfl D.c Q q0) ?_
    rw [List.length_map]
    have hb1 : (decide ((1 : Int) ≤ (cs.length : Int)) && decide ((cs.length : Int) ≤ 6)) = lenB 6 cs.length := rfl
    rw [hb1]
    refine ite2 (fun h1 => ?_) (fun h1 => ?_)
    · exact show Q (optV (some (Str.ofString "constants"))) H from valO (by rw [s00]; unfold worldF; rw [h1] <;> rfl) (k _ (Xt.refl H))
    have h1' := tt_of h1
    have s0 : dueW cs fs = (if !cs.all nameB then some (Str.ofString "name") else if !decide cs.Nodup then some (Str.ofString "twice") else if !fs.all (fun f => aboutB f cs) then some (Str.ofString "fact") else if !decide fs.Nodup then some (Str.ofString "again") else none : Option Str) := by
      rw [s00]
      unfold worldF
      rw [h1']
      rfl
    refine ⟨_, rfl, q, rfl, ⟨_, D.c⟩, fun D1 hD1 => lcf_by cs (fun c => !nameB c) (fun c => .str c) (List.length_map ..) D.c hD1 (by omega) (fun i v c hv hc H' Y N xt k1 k2 => ?_) (fun H1 x1 hl1 => ?_)⟩
    · rw [List.getElem?_map, hc] at hv
      cases hv
      exact ⟨rfl, _, rfl, _, rfl, D.w c (List.mem_of_getElem? hc), fun H6 y6 => ⟨_, rfl, ite2 (fun e => ⟨_, rfl, k1 _ y6 e⟩) (fun e => k2 _ y6 (eq_false_of_ne_true e))⟩⟩
    refine nn_str (ws := cs.filter fun c => !nameB c) hl1 (fun x hx => D.w x (List.mem_filter.mp hx).1) (fun H2 x2 => ?_)
    rw [fil_ne]
    replace x2 := x1.trans x2
    refine ⟨_, rfl, ite2 (fun h3 => ?_) (fun h3 => ?_)⟩
    · exact show Q (optV (some (Str.ofString "name"))) H2 from valO (by rw [s0, not_tt h3] <;> rfl) (k _ x2)
    have h3' := tt_of h3
    let nm : Nat → Bool := fun i => (cs[i]?).elim false fun x => decide (x ∈ cs.take i)
    have hnm : ∀ i x, cs[i]? = some x → nm i = decide (x ∈ cs.take i) := fun i x hx => by
      show ((cs[i]?).elim false fun x => decide (x ∈ cs.take i)) = _
      rw [hx]; rfl
    refine ⟨_, rfl, q, _, rfl, .inl (x2.sqL D.c), ((cs.map V.str).length : Int), rfl, by omega, by rw [List.length_map]; omega, fun D2 hD2 => lcf_rng (m := (cs.map V.str).length) nm (fun i => .int i) hD2 (by rw [List.length_map]; omega) (fun i hi H' Y N xt k1 k2 => ?_) (fun H3 x3 hl3 => ?_)⟩
    · have hic : i < cs.length := by rw [List.length_map] at hi; exact hi
      have hv : (cs.map V.str)[i]? = some (.str cs[i]) := by rw [List.getElem?_map, List.getElem?_eq_getElem hic]; rfl
      refine ⟨rfl, _, rfl, _, rfl, q, _, (i : Int), _, rfl, rfl, (x2.trans xt).sqL D.c, atI_nat hv, ?_⟩
      refine ⟨_, rfl, _, rfl, (i : Int), rfl, q, _, rfl, (x2.trans xt).sqL D.c, fun pp hpp => ?_⟩
      rw [cut_take, ← List.map_take]
      have xp := Xt.new (o := .lst ((cs.take i).map V.str)) hpp
      refine ⟨pp, _, rfl, .inl (.inl (.inl (upd_same ..))), rfl, flat_strs _, _, rfl, ?_⟩
      have ei : (if false = true then !inV (.str cs[i]) ((cs.take i).map V.str) else inV (.str cs[i]) ((cs.take i).map V.str)) = nm i := by
        rw [if_neg Bool.false_ne_true, in_strs, hnm i _ (List.getElem?_eq_getElem hic)]
      rw [ei]
      exact ite2 (fun e => ⟨_, rfl, k1 _ xp e⟩) (fun e => k2 _ xp (eq_false_of_ne_true e))
    have et : ((List.range (cs.map V.str).length).filter nm).isEmpty = decide cs.Nodup := by
      rw [List.length_map]
      exact twice_nodup _ nm hnm
    refine nn_int (ws := ((List.range (cs.map V.str).length).filter nm).map fun i : Nat => (Int.ofNat i : Int)) (by rw [hl3, List.map_map]; rfl) (fun H4 x4 => ?_)
    rw [map_isEmpty, et]
    replace x4 := (x2.trans x3).trans x4
    refine ⟨_, rfl, ite2 (fun h4 => ?_) (fun h4 => ?_)⟩
    · exact show Q (optV (some (Str.ofString "twice"))) H4 from valO (by rw [s0, h3', not_tt h4] <;> rfl) (k _ x4)
    have h4' := tt_of h4
    refine ⟨_, rfl, p, rfl, ⟨_, x4.sqL D.f⟩, for_list (xs := us) (fun i σ H' => ∃ n r : Option V, σ = [some (.ref q), some (.ref p), n, r, none, none] ∧ Xt H H' ∧ (fs.take i).all (fun f => aboutB f cs) = true) ⟨_, _, rfl, x4, rfl⟩ (fun i σ H' _ ⟨n, r, e1, xt, _⟩ => xt.sqL D.f) (fun i v σ H' hv hh => ?_) (fun σ H' hh => ?_)⟩
    · obtain ⟨n, r, rfl, xt, hp⟩ := hh
      have hi : i < us.length := (List.getElem?_eq_some_iff.mp hv).1
      have hif : i < fs.length := by rw [← D.len]; exact hi
      have hk := List.getElem?_eq_getElem hif
      obtain ⟨kr, hk1, hk2⟩ := nkA_at ((D.xt xt).k) hv
      rw [List.getElem?_map, hk] at hk1
      cases hk1
      obtain ⟨t, b, rfl, ht, hb⟩ := fk_inv hk2
      have hwf := hw _ (List.getElem_mem hif)
      generalize fs[i] = f at hk ht hb hwf
      refine ⟨t, _, rfl, ht, rfl, _, _, rfl, _, _, rfl, rfl, ?_⟩
      have ww : ∀ (H1 : Hp), Xt H H1 → aboutB f cs = false → Q (.str (Str.ofString "fact")) H1 := fun H1 x e =>
        show Q (optV (some (Str.ofString "fact"))) H1 from valO (by rw [s0, h3', h4', all_false_at (p := fun f => aboutB f cs) hk e] <;> rfl) (k _ x)
      refine ⟨_, rfl, Nat.zero_le _, fun u hu => ⟨_, _, .tup ((Xt.new hu).sqT hb) (dp_strs _), .tup (.inl (.inl (upd_same ..))) .nil, shp_ttexts hwf.2.1, shp_tnil, _, rfl, ?_⟩⟩
      rw [eqv_tnil, map_isEmpty]
      have y1 := Xt.new (o := .tup []) hu
      generalize upd H' u (.tup []) = H5 at y1
      refine ite2 (fun e5 => iteT (ww _ (xt.trans y1) (by unfold aboutB; rw [e5]; rfl))) (fun e5 => ?_)
      have e5' : f.2.isEmpty = false := eq_false_of_ne_true e5
      refine ⟨_, rfl, b, rfl, ⟨_, y1.sqT hb⟩, fun D3 hD3 => lcf_tup (fun v => !strIn cs v) (fun v => v) (y1.sqT hb) hD3 (by rw [List.length_map]; exact Nat.le_trans hwf.2.2 (by decide)) (fun v hv H6 Y N xt2 k1 k2 => ?_) (fun H6 x6 hl6 => ?_)⟩
      · obtain ⟨c, hc, rfl⟩ := List.mem_map.mp hv
        refine ⟨rfl, _, rfl, _, rfl, q, _, rfl, .inl (((xt.trans y1).trans xt2).sqL D.c), rfl, flat_strs _, _, rfl, ?_⟩
        have ei : (if true = true then !inV (.str c) (cs.map V.str) else inV (.str c) (cs.map V.str)) = (!strIn cs (.str c)) := by
          rw [if_pos rfl, in_strs]; rfl
        rw [ei]
        exact ite2 (fun e => ⟨_, rfl, k1 _ (Xt.refl _) e⟩) (fun e => k2 _ (Xt.refl _) (eq_false_of_ne_true e))
      · refine nn_str (ws := f.2.filter fun c => !decide (c ∈ cs)) (by rw [hl6, List.map_id', fil_strs]) (fun x hx => hwf.2.1 x (List.mem_filter.mp hx).1) (fun H7 x7 => ?_)
        rw [fil_ne]
        replace x7 := (xt.trans y1).trans (x6.trans x7)
        refine ⟨_, rfl, ite2 (fun e6 => ww _ x7 (by unfold aboutB; rw [not_tt e6, Bool.and_false])) (fun e6 => ⟨_, _, rfl, x7, ?_⟩)⟩
        rw [take_all_succ (p := fun f => aboutB f cs) hk, hp]
        show aboutB f cs = true
        unfold aboutB
        rw [e5', tt_of e6]; rfl
    · obtain ⟨n, r, rfl, xt, hp⟩ := hh
      rw [D.len, List.take_length] at hp
      let nf : Nat → Bool := fun i => (fs[i]?).elim false fun x => decide (x ∈ fs.take i)
      have hnf : ∀ i x, fs[i]? = some x → nf i = decide (x ∈ fs.take i) := fun i x hx => by
        show ((fs[i]?).elim false fun x => decide (x ∈ fs.take i)) = _
        rw [hx]; rfl
      have hul := D.len
      refine ⟨_, rfl, p, _, rfl, .inl (xt.sqL D.f), (us.length : Int), rfl, by omega, by omega, fun D5 hD5 => lcf_rng (m := us.length) nf (fun i => .int i) hD5 (by omega) (fun i hi H6 Y N xt2 k1 k2 => ?_) (fun H6 x6 hl6 => ?_)⟩
      · have hif : i < fs.length := by omega
        have hv := List.getElem?_eq_getElem hi
        have hk := List.getElem?_eq_getElem hif
        have y2 := xt.trans xt2
        refine ⟨rfl, _, rfl, _, rfl, p, _, (i : Int), _, rfl, rfl, y2.sqL D.f, atI_nat hv, ?_⟩
        refine ⟨_, rfl, _, rfl, (i : Int), rfl, p, _, rfl, y2.sqL D.f, fun pp hpp => ?_⟩
        rw [cut_take]
        have xp := Xt.new (o := .lst (us.take i)) hpp
        have hp2 : (upd H6 pp (.lst (us.take i))) pp = some (.lst (us.take i)) := upd_same ..
        generalize upd H6 pp (.lst (us.take i)) = H7 at xp hp2
        obtain ⟨kr, hk1, hk2⟩ := nkA_at ((D.xt (y2.trans xp)).k) hv
        rw [List.getElem?_map, hk] at hk1
        cases hk1
        have hkt : NkA K H7 ((fs.take i).map fk) (us.take i) := by
          rw [List.map_take]
          exact nkA_take i ((D.xt (y2.trans xp)).k)
        refine ⟨dF fs[i], (fs.take i).map dF, dp_fact hk2, .lst (.inl (.inl hp2)) (dp_facts hkt), shp_fact (hw _ (List.getElem_mem hif)), shp_facts (fun g hg => hw g (List.mem_of_mem_take hg)), _, rfl, ?_⟩
        rw [any_dF, ← hnf i _ hk]
        exact ite2 (fun e => ⟨_, rfl, k1 _ xp e⟩) (fun e => k2 _ xp (eq_false_of_ne_true e))
      · have et2 : ((List.range us.length).filter nf).isEmpty = decide fs.Nodup := by
          rw [hul]
          exact twice_by _ nf fun i x hx => by rw [hnf i x hx, decide_eq_true_iff]
        refine nn_int (ws := ((List.range us.length).filter nf).map fun i : Nat => (Int.ofNat i : Int)) (by rw [hl6, List.map_map]; rfl) (fun H7 x7 => ?_)
        rw [map_isEmpty, et2]
        replace x7 := xt.trans (x6.trans x7)
        refine ⟨_, rfl, ite2 (fun h6 => ?_) (fun h6 => ?_)⟩
        · exact show Q (optV (some (Str.ofString "again"))) H7 from valO (by rw [s0, h3', h4', hp, not_tt h6] <;> rfl) (k _ x7)
        · exact show Q (optV none) H7 from valO (by rw [s0, h3', h4', hp, tt_of h6] <;> rfl) (k _ x7)


end
end K0
set_option Elab.async false
set_option linter.all false
set_option maxRecDepth 100000
set_option maxHeartbeats 4000000
/-! comprehensions whose items are new tuples -/
namespace Gx
open PySem PySem.Spec PyProof.Rows L2
theorem op_catAK {X : Cx} {K : PySem.W.Frag} (h : X.K = K) : OpR X (binaryOp .Add) (rCatA K) := by subst h; exact op_catA
end Gx
namespace Lw
open PySem PySem.Spec PyProof.Rows L2 Gx Sn
section
variable {K : PySem.W.Frag} {g : TG} {tt : TT} {te : TE}
theorem nkA_add {H H4 : Hp} {D : Addr} {ks : List NestedKey} {k : NestedKey} {acc : List V} {y : V} (x : Xt H H4) (hD : H4 D = some (.lst acc)) (h : NkA K H ks acc) (hy : NkV K H4 k y) : NkA K (upd H4 D (.lst (acc ++ [y]))) (ks ++ [k]) (acc ++ [y]) :=
  nkA_app (nkA_tk (.lst hD) _ _ (nkA_tk (.of_xt x) _ _ h)) (nkA_cons (nkV_tk (.lst hD) _ _ hy) nkA_nil)
theorem lck_by {α : Type} {vs : List Nat} {σ : L2.St} {H1 : Hp} {D : Addr} {Qd : Hp → Prop} {a : Addr} {xs : List V} (ks : List α) (f : α → NestedKey) (hlen : xs.length = ks.length) (hl : SqL K H1 a xs) (hD : H1 D = none) (hz : ks.length ≤ sizeLine)
    (hs : ∀ (i : Nat) v k, xs[i]? = some v → ks[i]? = some k → ∀ H' (Y : V → Hp → Prop) (N : Hp → Prop), Xt H1 H' → (∀ H2 y, Xt H' H2 → NkV K H2 (f k) y → Y y H2) →
      g v (wipe σ vs) H' fun σ2 H2 => wipe σ2 vs = wipe σ vs ∧ tt σ2 H2 fun b H3 => if b = true then te σ2 H3 Y else N H3)
    (hd : ∀ H' ys, Xt H1 H' → H' D = some (.lst ys) → NkA K H' (ks.map f) ys → Qd H') :
    ∃ W : Nat → Nat → Hp → Prop, (∃ m, W 0 m (upd H1 D (.lst []))) ∧ ∀ i m H, W i m H →
      ((Itl K a).stop i H ∧ Qd H) ∨ ((Itl K a).go i H ∧ ∃ Nx : Hp → Prop, (∀ H', Nx H' → ∃ m', m' < m ∧ W (i + 1) m' H') ∧ ∀ v H', (Itl K a).yld i H v H' → g v (wipe σ vs) H' fun σ2 H2 => wipe σ2 vs = wipe σ vs ∧ tt σ2 H2 fun b H3 =>
        if b = true then te σ2 H3 fun y H4 => ∃ acc, H4 D = some (.lst acc) ∧ acc.length < sizeLine ∧ Nx (upd H4 D (.lst (acc ++ [y]))) else Nx H3) := by
  refine lc_list (xs := xs) (fun i H' => Xt H1 H' ∧ ∃ ys, H' D = some (.lst ys) ∧ NkA K H' ((ks.take i).map f) ys) ⟨Xt.new hD, _, upd_same .., nkA_nil⟩ (fun i H' _ hp => hp.1.sqL hl) (fun i c H' hc hp => ?_) (fun H' hp => ?_)
  · obtain ⟨xt, ys, hp, hk⟩ := hp
    have hi : i < ks.length := by rw [← hlen]; exact (List.getElem?_eq_some_iff.mp hc).1
    have hki := List.getElem?_eq_getElem hi
    refine hs i c _ hc hki H' _ _ xt (fun H2 y x2 e => ⟨_, x2.lst hp, ?_, (xt.trans x2).mut hD, _, upd_same .., ?_⟩)
    · rw [nkA_len hk, List.length_map]
      exact Nat.lt_of_le_of_lt (by rw [List.length_take]; exact Nat.min_le_left ..) (Nat.lt_of_lt_of_le hi hz)
    · rw [List.take_add_one, hki, List.map_append]
      exact nkA_add x2 (x2.lst hp) hk e
  · obtain ⟨xt, ys, hp, hk⟩ := hp
    rw [hlen, List.take_length] at hk
    exact hd H' ys xt hp hk
theorem lck_str {vs : List Nat} {σ : L2.St} {H1 : Hp} {D : Addr} {Qd : Hp → Prop} {x : Str} (f : Nat → NestedKey) (hD : H1 D = none) (hz : x.cps.toList.length ≤ sizeLine)
    (hs : ∀ v ∈ x.cps.toList, ∀ H' (Y : V → Hp → Prop) (N : Hp → Prop), Xt H1 H' → (∀ H2 y, Xt H' H2 → NkV K H2 (f v) y → Y y H2) →
      g (.str ⟨#[v]⟩) (wipe σ vs) H' fun σ2 H2 => wipe σ2 vs = wipe σ vs ∧ tt σ2 H2 fun b H3 => if b = true then te σ2 H3 Y else N H3)
    (hd : ∀ H' ys, Xt H1 H' → H' D = some (.lst ys) → NkA K H' (x.cps.toList.map f) ys → Qd H') :
    ∃ W : Nat → Nat → Hp → Prop, (∃ m, W 0 m (upd H1 D (.lst []))) ∧ ∀ i m H, W i m H →
      ((Its x).stop i H ∧ Qd H) ∨ ((Its x).go i H ∧ ∃ Nx : Hp → Prop, (∀ H', Nx H' → ∃ m', m' < m ∧ W (i + 1) m' H') ∧ ∀ v H', (Its x).yld i H v H' → g v (wipe σ vs) H' fun σ2 H2 => wipe σ2 vs = wipe σ vs ∧ tt σ2 H2 fun b H3 =>
        if b = true then te σ2 H3 fun y H4 => ∃ acc, H4 D = some (.lst acc) ∧ acc.length < sizeLine ∧ Nx (upd H4 D (.lst (acc ++ [y]))) else Nx H3) := by
  refine lc_str (fun i H' => Xt H1 H' ∧ ∃ ys, H' D = some (.lst ys) ∧ NkA K H' ((x.cps.toList.take i).map f) ys) ⟨Xt.new hD, _, upd_same .., nkA_nil⟩ (fun i c H' hc hp => ?_) (fun H' hp => ?_)
  · obtain ⟨xt, ys, hp, hk⟩ := hp
    have hc' : (x.cps.toList)[i]? = some c := by rw [Array.getElem?_toList]; exact hc
    have hi : i < (x.cps.toList).length := (List.getElem?_eq_some_iff.mp hc').1
    refine hs c (List.mem_of_getElem? hc') H' _ _ xt (fun H2 y x2 e => ⟨_, x2.lst hp, ?_, (xt.trans x2).mut hD, _, upd_same .., ?_⟩)
    · rw [nkA_len hk, List.length_map]
      exact Nat.lt_of_le_of_lt (by rw [List.length_take]; exact Nat.min_le_left ..) (Nat.lt_of_lt_of_le hi hz)
    · rw [List.take_add_one, hc', List.map_append]
      exact nkA_add x2 (x2.lst hp) hk e
  · obtain ⟨xt, ys, hp, hk⟩ := hp
    rw [show x.cps.size = x.cps.toList.length from Array.length_toList.symm, List.take_length] at hk
    exact hd H' ys xt hp hk
end
end Lw
namespace Lw
open PySem PySem.Spec PyProof.Rows L2 Gx Sn
section
variable {K : PySem.W.Frag}
theorem nn_rels {σ : L2.St} {H : Hp} {D : Addr} {us : List V} {rs : List (Str × Int)} {Q : VK} (hl : H D = some (.lst us)) (hk : NkA K H (rs.map rk) us) (hw : ∀ r ∈ rs, Wd r.1) (q : ∀ H1, Xt H H1 → Q (.bl (!rs.isEmpty)) H1) :
    tLst tNil σ H (fun y H2 => rNeD K (.ref D) y H2 Q) := by
  refine ⟨Nat.zero_le _, fun l hl2 => ⟨_, _, .lst (.inl (.inl ((Xt.new hl2).lst hl))) (dp_rels (nkA_tk (.new hl2) _ _ hk)), .lst (.inl (.inl (upd_same ..))) .nil, shp_rels hw, shp_nil, ?_⟩⟩
  rw [eqv_nil, map_isEmpty]
  exact q _ (Xt.new hl2)
theorem nn_facts {σ : L2.St} {H : Hp} {D : Addr} {us : List V} {rs : List (Str × List Str)} {Q : VK} (hl : H D = some (.lst us)) (hk : NkA K H (rs.map fk) us) (hw : ∀ r ∈ rs, Wf r) (q : ∀ H1, Xt H H1 → Q (.bl (!rs.isEmpty)) H1) :
    tLst tNil σ H (fun y H2 => rNeD K (.ref D) y H2 Q) := by
  refine ⟨Nat.zero_le _, fun l hl2 => ⟨_, _, .lst (.inl (.inl ((Xt.new hl2).lst hl))) (dp_facts (nkA_tk (.new hl2) _ _ hk)), .lst (.inl (.inl (upd_same ..))) .nil, shp_facts hw, shp_nil, ?_⟩⟩
  rw [eqv_nil, map_isEmpty]
  exact q _ (Xt.new hl2)
end
theorem mulOk_sign {c : Nat} {n : Int} (h0 : 0 ≤ n) (h : n ≤ 100) : PySem.MulOk ⟨#[c]⟩ n := by
  unfold PySem.MulOk
  have zl : 100000 ≤ sizeLine := by decide
  refine ⟨by rw [decide_eq_false (by omega), decide_eq_false (by omega)]; rfl, fun h1 _ => ?_, fun h1 _ => ?_⟩
  · have h2 : (1 : Int) ≤ (2 ^ 63 - 1) / n := (Int.le_ediv_iff_mul_le (by omega)).mpr (by omega)
    show ¬ ((1 : Int) > (2 ^ 63 - 1) / n)
    omega
  · unfold Builtin.Str.tooLong
    show decide (1 * n.toNat > sizeLine) = false
    exact decide_eq_false (by omega)
theorem sm_mul {c : Nat} {n : Int} {m : Nat} (hc : c < 128) (h : n ≤ (m : Int)) : Sm m (Txt.mul ⟨#[c]⟩ n) := by
  refine ⟨len_mul_one rfl h, fun e he => ?_⟩
  rw [show cl (Txt.mul ⟨#[c]⟩ n) = List.replicate n.toNat c from mul_one_list c n] at he
  rw [(List.mem_replicate.mp he).2]
  exact hc
end Lw
set_option Elab.async false
set_option linter.all false
set_option maxRecDepth 100000
set_option maxHeartbeats 4000000
namespace K0
open PySem PySem.Spec PyProof.Rows L2 Gx

open Lw Sn
/-! ### tuples of words -/
def tk (row : List Str) : NestedKey := .tup (row.map .text)
def spTuples (K : PySem.W.Frag) : Sp := fun vs H Q _ => ∃ (q : Addr) (cs : List Str) (m : Nat), vs = [.ref q, .int m] ∧ SqL K H q (cs.map V.str) ∧ cs.length ≤ 7 ∧ m ≤ 3 ∧
  ∀ H1 l us (rows : List (List Str)), Xt H H1 → H l = none → H1 l = some (.lst us) → NkA K H1 (rows.map tk) us → (∀ r ∈ rows, r.length ≤ 3 ∧ ∀ x ∈ r, x ∈ cs) → rows.length ≤ 343 → Q (.ref l) H1
theorem tk_app (r : List Str) (c : Str) : tk (r ++ [c]) = .tup (r.map .text ++ [.text c]) := by unfold tk; rw [List.map_append]; rfl
theorem nk_strs {K : PySem.W.Frag} {H : Hp} {r : List Str} {v : V} (h : NkV K H (tk r) v) : ∃ a, v = .ref a ∧ SqT K H a (r.map V.str) := by
  obtain ⟨a, xs, rfl, h1, h2⟩ := nk_tup_inv h
  rw [nkA_texts_inv h2] at h1
  exact ⟨a, rfl, h1⟩
theorem pow7 {i m n : Nat} (hm : m ≤ 3) (hi : i ≤ m) (h : n ≤ 7 ^ i) : n ≤ 343 := Nat.le_trans h (Nat.le_trans (Nat.pow_le_pow_right (by decide) (Nat.le_trans hi hm)) (by decide))
section
variable {P : Program} {w : World} {K : PySem.W.Frag} {mg : Str → Option Value} {base : Heap} {a : Ads}
theorem ok__law_tuples (T : Txt K mg a) (B : TabT base mg a) : FnOk P w K mg base CX0 1 a.f__law_tuples a.fd__law_tuples ["items", "count"] (spTuples K) := by
  refine T.F__law_tuples.ok sc__law_tuples (fun vs H Q E h => ?_) (fun A outer s H vs Q E hr h => ?_)
  · obtain ⟨q, cs, m, rfl, _⟩ := h
    rfl
  · obtain ⟨q, cs, m, rfl, hq, hc, hm, k⟩ := h
    refine ⟨_, (pss_cons (ps_set (i := 2) sc__law_tuples.nd rfl (.inl rfl) (pe_lst (pa_cons (pe_tup pa_nil) pa_nil)))
 (pss_cons (ps_for PassesOwn.never rfl (pi_range1 rfl T.range (pa_cons (pv 1) pa_nil)) (pg_name (i := 3) sc__law_tuples.nd rfl (.inl rfl))
  (pss_cons (ps_set (i := 4) sc__law_tuples.nd rfl (.inl rfl) (pe_lst pa_nil))
 (pss_cons (ps_for PassesOwn.never rfl (Gx.pi_listK (K := K) rfl (pv 2)) (pg_name (i := 5) sc__law_tuples.nd rfl (.inr rfl))
  (pss_one (ps_set (i := 4) sc__law_tuples.nd rfl (.inl rfl) (pe_op op_cat (pv 4) (pe_lc (own := [("item", 6)]) rfl sc__law_tuples.nd (Gx.pi_listK (K := K) rfl (pv 0)) (blkOk_by (own := [("item", 6)]) (N := ["items", "count", "rows", "place", "longer", "row", "item"]) (sc := defScope s__law_tuples) (by decide +kernel)) (fun _ _ _ _ _ => (pg_name (i := 6) sc__law_tuples.nd rfl (.inl rfl))) (fun _ _ _ _ _ => pts_nil) (fun _ _ _ _ _ => (pe_op (Gx.op_catAK (K := K) rfl) (pv 5) (pe_tup (pa_cons (pv 6) pa_nil)))))))))
 (pss_one (ps_set (i := 2) sc__law_tuples.nd rfl (.inl rfl) (pv 4))))))
 (pss_one (ps_ret (pv 2))))), ?_⟩
    have zl : 100000 ≤ sizeLine := by decide
    refine ⟨Nat.zero_le _, fun t0 ht0 => ⟨Nat.le_trans (show 1 ≤ 100000 by decide) zl, fun l0 hl0 => ?_⟩⟩
    have x0 := (Xt.new (o := .tup []) ht0).trans (Xt.new (o := .lst [.ref t0]) hl0)
    refine ⟨_, rfl, (m : Int), rfl, by omega, by omega, for_range (n := ((m : Int)).toNat) (fun i σ H' => ∃ (l : Addr) (p g r : Option V) (us : List V) (rows : List (List Str)), σ = [some (.ref q), some (.int m), some (.ref l), p, g, r, none] ∧ Xt H H' ∧ H l = none ∧ H' l = some (.lst us) ∧ NkA K H' (rows.map tk) us ∧ (∀ r ∈ rows, r.length = i ∧ ∀ x ∈ r, x ∈ cs) ∧ rows.length ≤ 7 ^ i)
      ⟨l0, none, none, none, _, [[]], rfl, x0, (Xt.new ht0).free hl0, upd_same .., nkA_cons (nk_tup ((Xt.new hl0).tup (upd_same ..)) nkA_nil) nkA_nil, (fun r hr => by rw [List.mem_singleton.mp hr]; exact ⟨rfl, fun x hx => by cases hx⟩), Nat.le_refl _⟩ (fun i σ H' hi hh => ?_) (fun σ H' hh => ?_)⟩
    · obtain ⟨l, p, g, r, us, rows, rfl, xt, fl, hl, hk, hr1, hn⟩ := hh
      have hi3 : i < m := by omega
      have hn2 := pow7 hm (Nat.le_of_lt hi3) hn
      refine ⟨Nat.zero_le _, fun g0 hg0 => ?_⟩
      have y0 := xt.trans (Xt.new (o := .lst []) hg0)
      refine ⟨_, rfl, l, rfl, ⟨_, .inl (.inl ((Xt.new hg0).lst hl))⟩, for_list (xs := us) (fun j σ H2 => ∃ (lg : Addr) (r : Option V) (us2 : List V) (rows2 : List (List Str)), σ = [some (.ref q), some (.int m), some (.ref l), some (.int (0 + (i : Int))), some (.ref lg), r, none] ∧ Xt H' H2 ∧ H' lg = none ∧ H2 lg = some (.lst us2) ∧ NkA K H2 (rows2.map tk) us2 ∧ (∀ r ∈ rows2, r.length = i + 1 ∧ ∀ x ∈ r, x ∈ cs) ∧ rows2.length ≤ 7 * j)
        ⟨g0, r, [], [], rfl, Xt.new hg0, hg0, upd_same .., nkA_nil, (fun r hr => by cases hr), Nat.zero_le _⟩ (fun j σ H2 _ ⟨lg, r, us2, rows2, e1, xt2, _⟩ => .inl (.inl (xt2.lst hl))) (fun j v σ H2 hv hh => ?_) (fun σ H2 hh => ?_)⟩
      · obtain ⟨lg, r, us2, rows2, rfl, xt2, fg, hg, hk2, hr2, hn3⟩ := hh
        have hj : j < us.length := (List.getElem?_eq_some_iff.mp hv).1
        have hjr : j < rows.length := by rw [nkA_len hk, List.length_map] at hj; exact hj
        obtain ⟨kr, hk3, hk4⟩ := nkA_at (nkA_tk (.of_xt xt2) _ _ hk) hv
        rw [List.getElem?_map, List.getElem?_eq_getElem hjr] at hk3
        cases hk3
        obtain ⟨b, rfl, hb⟩ := nk_strs hk4
        obtain ⟨hrl, hrc⟩ := hr1 _ (List.getElem_mem hjr)
        generalize rows[j] = row at hb hrl hrc
        refine ⟨_, rfl, _, rfl, q, rfl, ⟨_, (xt.trans xt2).sqL hq⟩, fun D hD => lck_by cs (fun c => tk (row ++ [c])) (List.length_map ..) ((xt.trans xt2).sqL hq) hD (by omega) (fun n v c hv2 hc2 H3 Y N xt3 kk => ?_) (fun H3 ys xt3 hys hky => ?_)⟩
        · rw [List.getElem?_map, hc2] at hv2
          cases hv2
          refine ⟨rfl, _, rfl, _, rfl, Nat.le_trans (show 1 ≤ 100000 by decide) zl, fun p1 hp1 => ⟨b, p1, row.map V.str, [.str c], rfl, rfl, (Xt.new hp1).sqT (xt3.sqT hb), .inl (.inl (upd_same ..)), ?_, fun e => ?_, (fun _ e => by cases e), fun _ _ p2 hp2 => ?_⟩⟩
          · rw [List.length_map, hrl]
            exact Nat.le_trans (show i + 1 ≤ 100000 by omega) zl
          · have er : row = [] := List.map_eq_nil_iff.mp e
            refine kk _ _ (Xt.new hp1) ?_
            rw [er]
            exact nk_tup (upd_same ..) (nkA_texts [c])
          · refine kk _ _ ((Xt.new hp1).trans (Xt.new hp2)) (nk_tup (xs := (row ++ [c]).map V.str) ?_ (nkA_texts _))
            rw [upd_same, List.map_append]
            rfl
        · have hgl : ys.length = cs.length := by rw [nkA_len hky, List.length_map]
          have hul : us2.length = rows2.length := by rw [nkA_len hk2, List.length_map]
          have hjn : j < 343 := by omega
          refine ⟨lg, D, us2, ys, rfl, rfl, xt3.lst hg, hys, Nat.le_trans (show us2.length + ys.length ≤ 100000 by omega) zl, fun pp hpp => ?_⟩
          have y3 := (xt2.trans xt3).trans (Xt.new (o := .lst (us2 ++ ys)) hpp)
          refine ⟨pp, _, us2 ++ ys, rows2 ++ cs.map (fun c => row ++ [c]), rfl, y3, (xt2.trans xt3).free hpp, upd_same .., ?_, fun r hr => ?_, ?_⟩
          · rw [List.map_append, List.map_map]
            exact nkA_app (nkA_tk (.of_xt (xt3.trans (Xt.new hpp))) _ _ hk2) (nkA_tk (.new hpp) _ _ hky)
          · rcases List.mem_append.mp hr with hr | hr
            · exact hr2 r hr
            · obtain ⟨c, hc3, rfl⟩ := List.mem_map.mp hr
              refine ⟨by rw [List.length_append, hrl]; rfl, fun x hx => ?_⟩
              rcases List.mem_append.mp hx with hx | hx
              · exact hrc x hx
              · rw [List.mem_singleton.mp hx]; exact hc3
          · rw [List.length_append, List.length_map]
            omega
      · obtain ⟨lg, r, us2, rows2, rfl, xt2, fg, hg, hk2, hr2, hn3⟩ := hh
        have hul : us.length = rows.length := by rw [nkA_len hk, List.length_map]
        refine ⟨_, rfl, lg, _, _, _, us2, rows2, rfl, xt.trans xt2, xt.free fg, hg, hk2, hr2, ?_⟩
        rw [Nat.pow_succ]
        omega
    · obtain ⟨l, p, g, r, us, rows, rfl, xt, fl, hl, hk, hr1, hn⟩ := hh
      exact ⟨_, rfl, k H' l us rows xt fl hl hk (fun r hr => ⟨by rw [(hr1 r hr).1]; omega, (hr1 r hr).2⟩) (pow7 hm (by omega) hn)⟩


end
end K0
set_option Elab.async false
set_option linter.all false
set_option maxRecDepth 100000
set_option maxHeartbeats 4000000
namespace K0
open PySem PySem.Spec PyProof.Rows L2 Gx

open Lw Sn
/-! ### words that are drawn -/
def spConsts : Sp := fun vs H Q _ => ∃ d : Addr, vs = [.ref d] ∧ Dr H d ∧ ∀ H1 l (cs : List Str), Xd d H H1 → H l = none → H1 l = some (.lst (cs.map V.str)) → cs.length ≤ 7 → (∀ x ∈ cs, Sm 13 x) → Q (.ref l) H1
theorem ixN_nat {n j : Nat} (h : j < n) : ixN n (j : Int) = some j := by
  unfold ixN
  rw [if_pos (by omega)]
  first | (rw [if_pos (by omega), Int.toNat_natCast]) | simp [h]
def seven : List Str := [Str.ofString "ann", Str.ofString "bob", Str.ofString "cid", Str.ofString "dot", Str.ofString "eve", Str.ofString "fay", Str.ofString "gus"]
def odd5 : List Str := [Str.ofString "", Str.ofString "Ann", Str.ofString "b-b", Str.ofString "abcdefghijklm", Str.ofString "x"]
theorem sm_seven : ∀ x ∈ seven, Sm 13 x := fun x hx => sm_by ((List.all_eq_true (l := seven) (p := smB 13)).mp (by decide +kernel) x hx)
theorem sm_odd5 : ∀ x ∈ odd5, Sm 13 x := fun x hx => sm_by ((List.all_eq_true (l := odd5) (p := smB 13)).mp (by decide +kernel) x hx)
section
variable {P : Program} {w : World} {K : PySem.W.Frag} {mg : Str → Option Value} {base : Heap} {a : Ads}
theorem ok__law_constants (T : Txt K mg a) (B : TabT base mg a) (G__law_take : FnOk P w K mg base CX0 1 a.f__law_take a.fd__law_take ["draws", "bound"] (spTake)) : FnOk P w K mg base CX0 2 a.f__law_constants a.fd__law_constants ["draws"] (spConsts) := by
  refine T.F__law_constants.ok sc__law_constants (fun vs H Q E h => ?_) (fun A outer s H vs Q E hr h => ?_)
  · obtain ⟨d, rfl, _⟩ := h
    rfl
  · obtain ⟨d, rfl, hd, k⟩ := h
    refine ⟨_, (pss_cons (ps_set (i := 1) sc__law_constants.nd rfl (.inl rfl) (pe_slice (Gx.sl_listK (K := K) rfl) (pe_lst (pa_cons pe_str (pa_cons pe_str (pa_cons pe_str (pa_cons pe_str (pa_cons pe_str (pa_cons pe_str (pa_cons pe_str pa_nil)))))))) po_none (po_some (pe_call G__law_take (hr.mono (by decide)) rfl T.g__law_take T.F__law_take.kp T.b__law_take .nil pass0 (pa_cons (pv 0) (pa_cons pe_int pa_nil))))))
 (C8.pss_cut (ps_if (PW.pt (pw_and (pt_cmpR (Gx.op_neDK (K := K) rfl hr.units) (pv 1) (pe_lst pa_nil) (nomark _)) (pw_and1 (pt_cmpR op_eq (pe_call G__law_take (hr.mono (by decide)) rfl T.g__law_take T.F__law_take.kp T.b__law_take .nil pass0 (pa_cons (pv 0) (pa_cons pe_int pa_nil))) pe_int (nomark _)))))
  (pss_one (ps_asg (pe_ix (Gx.ix_listK (K := K) rfl) (pe_lst (pa_cons pe_str (pa_cons pe_str (pa_cons pe_str (pa_cons pe_str (pa_cons pe_str pa_nil)))))) (pe_call G__law_take (hr.mono (by decide)) rfl T.g__law_take T.F__law_take.kp T.b__law_take .nil pass0 (pa_cons (pv 0) (pa_cons pe_int pa_nil))) (fun _ _ => rfl)) (pg_sub (pv 1) (pe_call G__law_take (hr.mono (by decide)) rfl T.g__law_take T.F__law_take.kp T.b__law_take .nil pass0 (pa_cons (pv 0) (pa_cons (pe_callB (Gx.call_len_seqK (K := K) rfl) rfl T.len (by decide +kernel) (pa_cons (pv 1) pa_nil)) pa_nil))) set_list)))
  pss_nil)
 (C8.pss_cut (ps_if (PW.pt (pw_and (pt_cmpR (Gx.op_neDK (K := K) rfl hr.units) (pv 1) (pe_lst pa_nil) (nomark _)) (pw_and1 (pt_cmpR op_eq (pe_call G__law_take (hr.mono (by decide)) rfl T.g__law_take T.F__law_take.kp T.b__law_take .nil pass0 (pa_cons (pv 0) (pa_cons pe_int pa_nil))) pe_int (nomark _)))))
  (pss_one (ps_set (i := 1) sc__law_constants.nd rfl (.inl rfl) (pe_op op_cat (pe_slice (Gx.sl_listK (K := K) rfl) (pv 1) po_none (po_some pe_int)) (pe_slice (Gx.sl_listK (K := K) rfl) (pv 1) po_none (po_some pe_int)))))
  pss_nil)
 (pss_one (ps_ret (pv 1)))))), ?_⟩
    have zl : 100000 ≤ sizeLine := by decide
    refine ⟨Nat.le_trans (show 7 ≤ 100000 by decide) zl, fun l0 hl0 => ?_⟩
    have x0 := (Xt.new (o := .lst (seven.map V.str)) hl0).xd hd
    have h0 : l0 ≠ d := (hd.ne_none hl0).symm
    refine ⟨_, rfl, d, 8, rfl, by decide, x0.dr, fun H1 r x1 r0 r1 => ⟨_, rfl, l0, seven.map V.str, rfl, .inl (.inl (x1.lst h0 (upd_same ..))), fun p hp => ?_⟩⟩
    replace x1 := x0.trans x1
    obtain ⟨n, rfl⟩ := Int.eq_ofNat_of_zero_le r0
    rw [cut_take, ← List.map_take]
    have fp : H p = none := x1.free hp
    have x2 := x1.xt (Xt.new (o := .lst ((seven.take n).map V.str)) hp)
    have hp2 : (upd H1 p (.lst ((seven.take n).map V.str))) p = some (.lst ((seven.take n).map V.str)) := upd_same ..
    have hn7 : (seven.take n).length ≤ 7 := by rw [List.length_take]; exact Nat.min_le_right ..
    have hsm : ∀ x ∈ seven.take n, Sm 13 x := fun x hx => sm_seven x (List.mem_of_mem_take hx)
    generalize upd H1 p (.lst ((seven.take n).map V.str)) = H2 at x2 hp2
    generalize seven.take n = cs at hp2 hn7 hsm
    refine ⟨fun σ H3 => ∃ (l : Addr) (cs : List Str), σ = [some (.ref d), some (.ref l)] ∧ Xd d H H3 ∧ H l = none ∧ H3 l = some (.lst (cs.map V.str)) ∧ cs.length ≤ 7 ∧ ∀ x ∈ cs, Sm 13 x, ?_, fun σ H3 hh => ?_⟩
    · have hpd : p ≠ d := (hd.ne_none fp).symm
      refine ⟨_, rfl, nn_str (ws := cs) hp2 (fun x hx => (hsm x hx).wd (by decide)) (fun H3 y3 => ?_)⟩
      have hp3 := y3.lst hp2
      have x3 := x2.xt y3
      refine ⟨_, rfl, ite2 (fun e1 => ?_) (fun e1 => iteF ⟨p, cs, rfl, x3, fp, hp3, hn7, hsm⟩)⟩
      refine ⟨_, rfl, d, 8, rfl, by decide, x3.dr, fun H4 r x4 r0 r1 => ⟨rfl, _, rfl, ?_⟩⟩
      have hp4 := x4.lst hpd hp3
      replace x4 := x3.trans x4
      refine ite2 (fun e2 => ?_) (fun e2 => ⟨p, cs, rfl, x4, fp, hp4, hn7, hsm⟩)
      refine ⟨Nat.le_trans (show 5 ≤ 100000 by decide) zl, fun l2 hl2 => ?_⟩
      have hl2d : l2 ≠ d := (x4.dr.ne_none hl2).symm
      have hp5 := (Xt.new (o := .lst (odd5.map V.str)) hl2).lst hp4
      have x5 := x4.xt (Xt.new (o := .lst (odd5.map V.str)) hl2)
      refine ⟨_, rfl, d, 5, rfl, by decide, x5.dr, fun H6 j x6 j0 j1 => ?_⟩
      have hq6 : H6 l2 = some (.lst (odd5.map V.str)) := x6.lst hl2d (upd_same ..)
      have hp6 := x6.lst hpd hp5
      replace x6 := x5.trans x6
      obtain ⟨jn, rfl⟩ := Int.eq_ofNat_of_zero_le j0
      have hjn : jn < odd5.length := by show jn < 5; omega
      refine ⟨l2, _, _, .str odd5[jn], rfl, rfl, .inl (.inl hq6), atI_nat (by rw [List.getElem?_map, List.getElem?_eq_getElem hjn]; rfl), ?_⟩
      have hs5 : Sm 13 odd5[jn] := sm_odd5 _ (List.getElem_mem hjn)
      generalize odd5[jn] = wx at hs5
      have hne : 0 < cs.length := by
        cases cs with
        | nil => cases e1
        | cons a b => exact Nat.succ_pos _
      refine ⟨_, rfl, _, rfl, _, rfl, p, cs.map V.str, rfl, .inl (.inl (.inl hp6)), d, ((cs.map V.str).length : Int), rfl, by rw [List.length_map]; omega, x6.dr, fun H7 m x7 m0 m1 => ?_⟩
      rw [List.length_map] at m1
      have hp7 := x7.lst hpd hp6
      replace x7 := x6.trans x7
      obtain ⟨mn, rfl⟩ := Int.eq_ofNat_of_zero_le m0
      have hmn : mn < cs.length := by omega
      refine ⟨p, cs.map V.str, (mn : Int), mn, rfl, rfl, hp7, ixN_nat (by rw [List.length_map]; exact hmn), p, cs.set mn wx, rfl, x7.mut hpd.symm fp, fp, by rw [upd_same, List.map_set], by rw [List.length_set]; exact hn7, fun x hx => ?_⟩
      rcases List.mem_or_eq_of_mem_set hx with hx | rfl
      · exact hsm x hx
      · exact hs5
    · obtain ⟨l, cs, rfl, x3, fl, hl, hn7, hsm⟩ := hh
      have hld : l ≠ d := (hd.ne_none fl).symm
      refine ⟨fun σ H3 => ∃ (l : Addr) (cs : List Str), σ = [some (.ref d), some (.ref l)] ∧ Xd d H H3 ∧ H l = none ∧ H3 l = some (.lst (cs.map V.str)) ∧ cs.length ≤ 7 ∧ ∀ x ∈ cs, Sm 13 x, ?_, fun σ H3 hh => ?_⟩
      · refine ⟨_, rfl, nn_str (ws := cs) hl (fun x hx => (hsm x hx).wd (by decide)) (fun H4 y4 => ?_)⟩
        have hl4 := y4.lst hl
        have x4 := x3.xt y4
        refine ⟨_, rfl, ite2 (fun e1 => ?_) (fun e1 => iteF ⟨l, cs, rfl, x4, fl, hl4, hn7, hsm⟩)⟩
        refine ⟨_, rfl, d, 8, rfl, by decide, x4.dr, fun H5 r x5 r0 r1 => ⟨rfl, _, rfl, ?_⟩⟩
        have hl5 := x5.lst hld hl4
        replace x5 := x4.trans x5
        refine ite2 (fun e2 => ?_) (fun e2 => ⟨l, cs, rfl, x5, fl, hl5, hn7, hsm⟩)
        refine ⟨_, rfl, 5, rfl, l, _, rfl, .inl (.inl hl5), fun p1 hp1 => ?_⟩
        rw [show (5 : Int) = ((5 : Nat) : Int) from rfl, cut_take, ← List.map_take]
        have x6 := x5.xt (Xt.new (o := .lst ((cs.take 5).map V.str)) hp1)
        refine ⟨_, rfl, 1, rfl, l, _, rfl, .inl (.inl ((Xt.new hp1).lst hl5)), fun p2 hp2 => ?_⟩
        rw [show (1 : Int) = ((1 : Nat) : Int) from rfl, cut_take, ← List.map_take]
        have x7 := x6.xt (Xt.new (o := .lst ((cs.take 1).map V.str)) hp2)
        refine ⟨p1, p2, _, _, rfl, rfl, (Xt.new hp2).lst (upd_same ..), upd_same .., ?_, fun p3 hp3 => ?_⟩
        · simp only [List.length_map, List.length_take]
          omega
        · refine ⟨p3, cs.take 5 ++ cs.take 1, rfl, x7.xt (Xt.new hp3), x7.free hp3, by rw [upd_same, List.map_append], ?_, fun x hx => ?_⟩
          · simp only [List.length_append, List.length_take]
            omega
          · rcases List.mem_append.mp hx with hx | hx
            · exact hsm x (List.mem_of_mem_take hx)
            · exact hsm x (List.mem_of_mem_take hx)
      · obtain ⟨l, cs, rfl, x3, fl, hl, hn7, hsm⟩ := hh
        exact ⟨_, rfl, k H3 l cs x3 fl hl hn7 hsm⟩


end
end K0
set_option Elab.async false
set_option linter.all false
set_option maxRecDepth 100000
set_option maxHeartbeats 4000000
namespace K0
open PySem PySem.Spec PyProof.Rows L2 Gx

open Lw Sn
/-! ### relations that are drawn -/
def spRels (K : PySem.W.Frag) : Sp := fun vs H Q _ => ∃ (d : Addr) (x : Str), vs = [.ref d, .str x] ∧ Dr H d ∧ 4 ≤ (cl x).length ∧ (cl x).length ≤ 7 ∧ (∀ c ∈ cl x, c < 128) ∧
  ∀ H1 l us (rows : List (Str × Int)), Xd d H H1 → H l = none → H1 l = some (.lst us) → NkA K H1 (rows.map rk) us → (∀ r ∈ rows, Wd r.1) → rows.length ≤ 50 → Q (.ref l) H1
def three : List Str := [Str.ofString "x", Str.ofString "", Str.ofString "yy"]
def odd6 : List Str := [Str.ofString "", Str.ofString "Red", Str.ofString "a b", Str.ofString "a1", Str.ofString "abcdefghijklm", Str.ofString "r"]
theorem sm_three : ∀ x ∈ three, Sm 2 x := fun x hx => sm_by ((List.all_eq_true (l := three) (p := smB 2)).mp (by decide +kernel) x hx)
theorem sm_odd6 : ∀ x ∈ odd6, Sm 13 x := fun x hx => sm_by ((List.all_eq_true (l := odd6) (p := smB 13)).mp (by decide +kernel) x hx)
/-- the state of the loop -/
def RelSt (K : PySem.W.Frag) (H : Hp) (d : Addr) (x : Str) (n : Nat) (B : Option V → Option V → Prop) (σ : L2.St) (H' : Hp) : Prop := ∃ (l : Addr) (a b c : Option V) (us : List V) (rows : List (Str × Int)), σ = [some (.ref d), some (.str x), some (.ref l), a, b, c, none] ∧
  B b c ∧ Xd d H H' ∧ H l = none ∧ H' l = some (.lst us) ∧ NkA K H' (rows.map rk) us ∧ (∀ r ∈ rows, Wd r.1) ∧ rows.length ≤ n
section
variable {P : Program} {w : World} {K : PySem.W.Frag} {mg : Str → Option Value} {base : Heap} {a : Ads}
theorem ok__law_relations (T : Txt K mg a) (B : TabT base mg a) (G__law_take : FnOk P w K mg base CX0 1 a.f__law_take a.fd__law_take ["draws", "bound"] (spTake)) : FnOk P w K mg base CX0 2 a.f__law_relations a.fd__law_relations ["draws", "letters"] (spRels K) := by
  refine T.F__law_relations.ok sc__law_relations (fun vs H Q E h => ?_) (fun A outer s H vs Q E hr h => ?_)
  · obtain ⟨d, x, rfl, _⟩ := h
    rfl
  · obtain ⟨d, x, rfl, hd, hx4, hx7, hxa, k⟩ := h
    refine ⟨_, (pss_cons (ps_set (i := 2) sc__law_relations.nd rfl (.inl rfl) (pe_lst pa_nil))
 (pss_cons (ps_for PassesOwn.never rfl (pi_range1 rfl T.range (pa_cons (pe_call G__law_take (hr.mono (by decide)) rfl T.g__law_take T.F__law_take.kp T.b__law_take .nil pass0 (pa_cons (pv 0) (pa_cons pe_int pa_nil))) pa_nil)) (pg_name (i := 3) sc__law_relations.nd rfl (.inl rfl))
  (pss_cons (ps_set (i := 4) sc__law_relations.nd rfl (.inl rfl) (pe_op op_add_str (pe_op Gx.op_mul_str (pe_ix ix_str (pv 1) (pv 3) (fun _ _ => rfl)) (pe_op op_add pe_int (pe_op op_mul pe_int (pe_call G__law_take (hr.mono (by decide)) rfl T.g__law_take T.F__law_take.kp T.b__law_take .nil pass0 (pa_cons (pv 0) (pa_cons pe_int pa_nil)))))) (pe_ix (Gx.ix_listK (K := K) rfl) (pe_lst (pa_cons pe_str (pa_cons pe_str (pa_cons pe_str pa_nil)))) (pe_call G__law_take (hr.mono (by decide)) rfl T.g__law_take T.F__law_take.kp T.b__law_take .nil pass0 (pa_cons (pv 0) (pa_cons pe_int pa_nil))) (fun _ _ => rfl))))
 (C8.pss_cut (ps_if (pt_cmpR op_eq (pe_call G__law_take (hr.mono (by decide)) rfl T.g__law_take T.F__law_take.kp T.b__law_take .nil pass0 (pa_cons (pv 0) (pa_cons pe_int pa_nil))) pe_int (nomark _))
  (pss_one (ps_set (i := 4) sc__law_relations.nd rfl (.inl rfl) (pe_ix (Gx.ix_listK (K := K) rfl) (pe_lst (pa_cons pe_str (pa_cons pe_str (pa_cons pe_str (pa_cons pe_str (pa_cons pe_str (pa_cons pe_str pa_nil))))))) (pe_call G__law_take (hr.mono (by decide)) rfl T.g__law_take T.F__law_take.kp T.b__law_take .nil pass0 (pa_cons (pv 0) (pa_cons pe_int pa_nil))) (fun _ _ => rfl))))
  pss_nil)
 (pss_cons (ps_set (i := 5) sc__law_relations.nd rfl (.inl rfl) (pe_op op_add pe_int (pe_call G__law_take (hr.mono (by decide)) rfl T.g__law_take T.F__law_take.kp T.b__law_take .nil pass0 (pa_cons (pv 0) (pa_cons pe_int pa_nil)))))
 (C8.pss_cut (ps_if (pt_cmpR op_eq (pe_call G__law_take (hr.mono (by decide)) rfl T.g__law_take T.F__law_take.kp T.b__law_take .nil pass0 (pa_cons (pv 0) (pa_cons pe_int pa_nil))) pe_int (nomark _))
  (pss_one (ps_set (i := 5) sc__law_relations.nd rfl (.inl rfl) (pe_ix (Gx.ix_listK (K := K) rfl) (pe_lst (pa_cons pe_int (pa_cons pe_int (pa_cons (pe_un un_neg pe_int) pa_nil)))) (pe_call G__law_take (hr.mono (by decide)) rfl T.g__law_take T.F__law_take.kp T.b__law_take .nil pass0 (pa_cons (pv 0) (pa_cons pe_int pa_nil))) (fun _ _ => rfl))))
  pss_nil)
 (pss_one (ps_expr (Gx.pe_bmK (K := K) rfl PySem.F.plainAttrs_list PySem.F.slot_list_append PySem.F.type_list_append mt_append (pv 2) (pa_cons (pe_tup (pa_cons (pv 4) (pa_cons (pv 5) pa_nil))) pa_nil)))))))))
 (C8.pss_cut (ps_if (PW.pt (pw_and (pt_cmpR (Gx.op_neDK (K := K) rfl hr.units) (pv 2) (pe_lst pa_nil) (nomark _)) (pw_and1 (pt_cmpR op_eq (pe_call G__law_take (hr.mono (by decide)) rfl T.g__law_take T.F__law_take.kp T.b__law_take .nil pass0 (pa_cons (pv 0) (pa_cons pe_int pa_nil))) pe_int (nomark _)))))
  (pss_one (ps_set (i := 2) sc__law_relations.nd rfl (.inl rfl) (pe_op op_cat (pv 2) (pe_slice (Gx.sl_listK (K := K) rfl) (pv 2) po_none (po_some pe_int)))))
  pss_nil)
 (C8.pss_cut (ps_if (pt_cmpR op_eq (pe_call G__law_take (hr.mono (by decide)) rfl T.g__law_take T.F__law_take.kp T.b__law_take .nil pass0 (pa_cons (pv 0) (pa_cons pe_int pa_nil))) pe_int (nomark _))
  (pss_one (ps_set (i := 2) sc__law_relations.nd rfl (.inl rfl) (pe_op op_cat (pv 2) (pe_lc (own := [("letter", 6)]) rfl sc__law_relations.nd (pi_str (pv 1)) (blkOk_by (own := [("letter", 6)]) (N := ["draws", "letters", "rows", "k", "name", "places", "letter"]) (sc := defScope s__law_relations) (by decide +kernel)) (fun _ _ _ _ _ => (pg_name (i := 6) sc__law_relations.nd rfl (.inl rfl))) (fun _ _ _ _ _ => pts_nil) (fun _ _ _ _ _ => (pe_tup (pa_cons (pe_op Gx.op_mul_str (pv 6) pe_int) (pa_cons pe_int pa_nil))))))))
  pss_nil)
 (pss_one (ps_ret (pv 2))))))), ?_⟩
    have zl : 100000 ≤ sizeLine := by decide
    have hxl : x.length ≤ sizeLine := by rw [← len_cl]; omega
    refine ⟨Nat.zero_le _, fun l0 hl0 => ?_⟩
    have x0 := (Xt.new (o := .lst []) hl0).xd hd
    refine ⟨_, rfl, d, 5, rfl, by decide, x0.dr, fun H1 n x1 n0 n1 => ⟨n, rfl, by omega, by omega, for_range (n := n.toNat) (fun i => RelSt K H d x i fun _ _ => True)
      ⟨l0, none, none, none, [], [], rfl, trivial, x0.trans x1, hl0, x1.lst (hd.ne_none hl0).symm (upd_same ..), nkA_nil, (fun r hr => by cases hr), Nat.le_refl _⟩ (fun i σ H' hi hh => ?_) (fun σ H' hh => ?_)⟩⟩
    · obtain ⟨l, a1, b1, c1, us, rows, rfl, _, xd, fl, hl, hk, hw, hn⟩ := hh
      have hld : l ≠ d := (hd.ne_none fl).symm
      have hix : i < (cl x).length := by omega
      have e0 : (0 + (i : Int)) = (i : Int) := by omega
      rw [e0]
      have hcs : (cl x)[i] < 128 := hxa _ (List.getElem_mem hix)
      refine ⟨_, rfl, _, rfl, x, (i : Int), (cl x)[i], rfl, rfl, hxl, atI_nat (List.getElem?_eq_getElem hix), ?_⟩
      generalize (cl x)[i] = c at hcs
      refine ⟨_, rfl, d, 2, rfl, by decide, xd.dr, fun H2 r2 x2 p0 p1 => ⟨10, r2, rfl, rfl, .inl ⟨by decide, by decide⟩, 1, 10 * r2, rfl, rfl, ⟨#[c]⟩, 1 + 10 * r2, rfl, rfl, mulOk_sign (by omega) (by omega), ?_⟩⟩
      have s1 : Sm 11 (Txt.mul ⟨#[c]⟩ (1 + 10 * r2)) := sm_mul hcs (by omega)
      generalize Txt.mul ⟨#[c]⟩ (1 + 10 * r2) = w1 at s1
      have hl2 := x2.lst hld hl
      have hk2 := nkA_tk (.of_xd xd.dr x2) _ _ hk
      replace x2 := xd.trans x2
      refine ⟨Nat.le_trans (show 3 ≤ 100000 by decide) zl, fun t0 ht0 => ?_⟩
      have htd : t0 ≠ d := (x2.dr.ne_none ht0).symm
      have x3 := (Xt.new (o := .lst (three.map V.str)) ht0).xd x2.dr
      refine ⟨_, rfl, d, 3, rfl, by decide, x3.dr, fun H4 r4 x4 q0 q1 => ?_⟩
      obtain ⟨jn, rfl⟩ := Int.eq_ofNat_of_zero_le q0
      have hjn : jn < three.length := by show jn < 3; omega
      have ht4 : H4 t0 = some (.lst (three.map V.str)) := x4.lst htd (upd_same ..)
      have s2 : Sm 2 three[jn] := sm_three _ (List.getElem_mem hjn)
      refine ⟨t0, _, _, .str three[jn], rfl, rfl, .inl (.inl ht4), atI_nat (by rw [List.getElem?_map, List.getElem?_eq_getElem hjn]; rfl), ?_⟩
      generalize three[jn] = w2 at s2
      have x24 := x3.trans x4
      have hl4 := x24.lst hld hl2
      have hk4 := nkA_tk (.of_xd x2.dr x24) _ _ hk2
      replace x4 := x2.trans x24
      refine ⟨_, _, rfl, rfl, Nat.le_trans (Nat.add_le_add s1.len s2.len) (Nat.le_trans (by decide) zl), ?_⟩
      have s3 : Sm 13 (w1 ++ w2) := s1.app s2
      generalize w1 ++ w2 = w3 at s3
      refine ⟨RelSt K H d x i fun b _ => ∃ w, b = some (.str w) ∧ Sm 13 w, ?_, fun σ H5 hh => ?_⟩
      · refine ⟨_, rfl, d, 12, rfl, by decide, x4.dr, fun H5 r5 x5 u0 u1 => ⟨rfl, _, rfl, ite2 (fun e => ?_) (fun e => ?_)⟩⟩
        · have hl5 := x5.lst hld hl4
          have hk5 := nkA_tk (.of_xd x4.dr x5) _ _ hk4
          replace x5 := x4.trans x5
          refine ⟨Nat.le_trans (show 6 ≤ 100000 by decide) zl, fun t1 ht1 => ?_⟩
          have ht1d : t1 ≠ d := (x5.dr.ne_none ht1).symm
          have x6 := (Xt.new (o := .lst (odd6.map V.str)) ht1).xd x5.dr
          refine ⟨_, rfl, d, 6, rfl, by decide, x6.dr, fun H7 r7 x7 v0 v1 => ?_⟩
          obtain ⟨kn, rfl⟩ := Int.eq_ofNat_of_zero_le v0
          have hkn : kn < odd6.length := by show kn < 6; omega
          have ht7 : H7 t1 = some (.lst (odd6.map V.str)) := x7.lst ht1d (upd_same ..)
          have x67 := x6.trans x7
          refine ⟨t1, _, _, .str odd6[kn], rfl, rfl, .inl (.inl ht7), atI_nat (by rw [List.getElem?_map, List.getElem?_eq_getElem hkn]; rfl), ?_⟩
          exact ⟨l, _, _, _, us, rows, rfl, ⟨_, rfl, sm_odd6 _ (List.getElem_mem hkn)⟩, x5.trans x67, fl, x67.lst hld hl5, nkA_tk (.of_xd x5.dr x67) _ _ hk5, hw, hn⟩
        · exact ⟨l, _, _, _, us, rows, rfl, ⟨_, rfl, s3⟩, x4.trans x5, fl, x5.lst hld hl4, nkA_tk (.of_xd x4.dr x5) _ _ hk4, hw, hn⟩
      · obtain ⟨l, a1, b1, c1, us, rows, rfl, ⟨w, rfl, sw⟩, xd, fl, hl, hk, hw, hn⟩ := hh
        have hld : l ≠ d := (hd.ne_none fl).symm
        refine ⟨_, rfl, d, 3, rfl, by decide, xd.dr, fun H6 r6 x6 p0 p1 => ⟨1, r6, rfl, rfl, ?_⟩⟩
        have hl6 := x6.lst hld hl
        have hk6 := nkA_tk (.of_xd xd.dr x6) _ _ hk
        replace x6 := xd.trans x6
        refine ⟨RelSt K H d x i fun b c => (∃ w, b = some (.str w) ∧ Sm 13 w) ∧ ∃ m, c = some (.int m), ?_, fun σ H7 hh => ?_⟩
        · refine ⟨_, rfl, d, 15, rfl, by decide, x6.dr, fun H7 r7 x7 u0 u1 => ⟨rfl, _, rfl, ite2 (fun e => ?_) (fun e => ?_)⟩⟩
          · have hl7 := x7.lst hld hl6
            have hk7 := nkA_tk (.of_xd x6.dr x7) _ _ hk6
            replace x7 := x6.trans x7
            refine ⟨1, rfl, Nat.le_trans (show 3 ≤ 100000 by decide) zl, fun t1 ht1 => ?_⟩
            have ht1d : t1 ≠ d := (x7.dr.ne_none ht1).symm
            have x8 := (Xt.new (o := .lst (([0, 4, -1] : List Int).map V.int)) ht1).xd x7.dr
            refine ⟨_, rfl, d, 3, rfl, by decide, x8.dr, fun H9 r9 x9 v0 v1 => ?_⟩
            obtain ⟨kn, rfl⟩ := Int.eq_ofNat_of_zero_le v0
            have hkn : kn < ([0, 4, -1] : List Int).length := by show kn < 3; omega
            have ht9 : H9 t1 = some (.lst (([0, 4, -1] : List Int).map V.int)) := x9.lst ht1d (upd_same ..)
            have x89 := x8.trans x9
            refine ⟨t1, _, _, .int ([0, 4, -1] : List Int)[kn], rfl, rfl, .inl (.inl ht9), atI_nat (by rw [List.getElem?_map, List.getElem?_eq_getElem hkn]; rfl), ?_⟩
            exact ⟨l, _, _, _, us, rows, rfl, ⟨⟨_, rfl, sw⟩, _, rfl⟩, x7.trans x89, fl, x89.lst hld hl7, nkA_tk (.of_xd x7.dr x89) _ _ hk7, hw, hn⟩
          · exact ⟨l, _, _, _, us, rows, rfl, ⟨⟨_, rfl, sw⟩, _, rfl⟩, x6.trans x7, fl, x7.lst hld hl6, nkA_tk (.of_xd x6.dr x7) _ _ hk6, hw, hn⟩
        · obtain ⟨l, a1, b1, c1, us, rows, rfl, ⟨⟨w, rfl, sw⟩, m, rfl⟩, xd, fl, hl, hk, hw, hn⟩ := hh
          have hld : l ≠ d := (hd.ne_none fl).symm
          have hul : us.length = rows.length := by rw [nkA_len hk, List.length_map]
          have hi5 : i < 5 := by omega
          refine ⟨_, rfl, .inl ⟨rfl, _, .inl (.inl hl)⟩, _, rfl, _, rfl, Nat.le_trans (show 2 ≤ 100000 by decide) zl, fun p hp => ⟨l, us, .ref p, rfl, rfl, (Xt.new hp).lst hl, Nat.lt_of_lt_of_le (show us.length < 100000 by omega) zl, ?_⟩⟩
          refine ⟨l, _, _, _, us ++ [.ref p], rows ++ [(w, m)], rfl, trivial, (xd.xt (Xt.new hp)).mut hld.symm fl, fl, upd_same .., ?_, fun r hr => ?_, ?_⟩
          · rw [List.map_append]
            exact nkA_add (Xt.new hp) ((Xt.new hp).lst hl) hk (nk_tup (ks := [.text w, .num m]) (xs := [.str w, .int m]) (upd_same ..) (nkA_cons nk_text (nkA_cons nk_num nkA_nil)))
          · rcases List.mem_append.mp hr with hr | hr
            · exact hw r hr
            · rw [List.mem_singleton.mp hr]; exact sw.wd (by decide)
          · rw [List.length_append]
            show rows.length + 1 ≤ i + 1
            omega
    · obtain ⟨l, a1, b1, c1, us, rows, rfl, _, xd, fl, hl, hk, hw, hn⟩ := hh
      have hld : l ≠ d := (hd.ne_none fl).symm
      have hn5 : rows.length ≤ 4 := by omega
      refine ⟨RelSt K H d x 8 fun _ _ => True, ?_, fun σ H2 hh => ?_⟩
      · refine ⟨_, rfl, nn_rels hl hk hw (fun H2 y2 => ⟨_, rfl, ite2 (fun e => ?_) (fun e => iteF ⟨l, _, _, _, us, rows, rfl, trivial, xd.xt y2, fl, y2.lst hl, nkA_tk (.of_xt y2) _ _ hk, hw, by omega⟩)⟩)⟩
        have hl2 := y2.lst hl
        have hk2 := nkA_tk (.of_xt y2) _ _ hk
        have x2 := xd.xt y2
        refine ⟨_, rfl, d, 8, rfl, by decide, x2.dr, fun H3 r3 x3 p0 p1 => ⟨rfl, _, rfl, ?_⟩⟩
        have hl3 := x3.lst hld hl2
        have hk3 := nkA_tk (.of_xd x2.dr x3) _ _ hk2
        replace x3 := x2.trans x3
        refine ite2 (fun e2 => ?_) (fun e2 => ⟨l, _, _, _, us, rows, rfl, trivial, x3, fl, hl3, hk3, hw, by omega⟩)
        refine ⟨_, rfl, _, rfl, 1, rfl, l, us, rfl, .inl (.inl hl3), fun p hp => ?_⟩
        rw [show (1 : Int) = ((1 : Nat) : Int) from rfl, cut_take]
        have hul : us.length = rows.length := by rw [nkA_len hk, List.length_map]
        refine ⟨l, p, us, us.take 1, rfl, rfl, (Xt.new hp).lst hl3, upd_same .., ?_, fun p3 hp3 => ?_⟩
        · rw [List.length_take]
          exact Nat.le_trans (show us.length + min 1 us.length ≤ 100000 by omega) zl
        · have y3 := (Xt.new (o := .lst (us.take 1)) hp).trans (Xt.new (o := .lst (us ++ us.take 1)) hp3)
          refine ⟨p3, _, _, _, us ++ us.take 1, rows ++ rows.take 1, rfl, trivial, x3.xt y3, (x3.xt (Xt.new hp)).free hp3, upd_same .., ?_, fun r hr => ?_, ?_⟩
          · rw [List.map_append, List.map_take]
            have hk5 := nkA_tk (.of_xt y3) _ _ hk3
            exact nkA_app hk5 (nkA_take 1 hk5)
          · rcases List.mem_append.mp hr with hr | hr
            · exact hw r hr
            · exact hw r (List.mem_of_mem_take hr)
          · rw [List.length_append, List.length_take]
            omega
      · obtain ⟨l, a1, b1, c1, us, rows, rfl, _, xd, fl, hl, hk, hw, hn⟩ := hh
        have hld : l ≠ d := (hd.ne_none fl).symm
        have hul : us.length = rows.length := by rw [nkA_len hk, List.length_map]
        refine ⟨RelSt K H d x 16 fun _ _ => True, ?_, fun σ H3 hh => ?_⟩
        · refine ⟨_, rfl, d, 10, rfl, by decide, xd.dr, fun H3 r3 x3 p0 p1 => ⟨rfl, _, rfl, ?_⟩⟩
          have hl3 := x3.lst hld hl
          have hk3 := nkA_tk (.of_xd xd.dr x3) _ _ hk
          replace x3 := xd.trans x3
          refine ite2 (fun e2 => ?_) (fun e2 => ⟨l, _, _, _, us, rows, rfl, trivial, x3, fl, hl3, hk3, hw, by omega⟩)
          refine ⟨_, rfl, _, rfl, x, rfl, fun D hD => lck_str (K := K) (fun c => rk (Txt.mul ⟨#[c]⟩ 3, 1)) hD (show (cl x).length ≤ sizeLine by omega) (fun c hc H6 Y N xt kk => ?_) (fun H6 ys x6 hys hky => ?_)⟩
          · exact ⟨rfl, _, rfl, ⟨#[c]⟩, 3, rfl, rfl, mulOk_sign (by decide) (by decide), Nat.le_trans (show 2 ≤ 100000 by decide) zl, fun p hp => kk _ _ (Xt.new hp) (nk_tup (ks := [.text (Txt.mul ⟨#[c]⟩ 3), .num 1]) (xs := [.str (Txt.mul ⟨#[c]⟩ 3), .int 1]) (upd_same ..) (nkA_cons nk_text (nkA_cons nk_num nkA_nil)))⟩
          · have hyl : ys.length = (cl x).length := by rw [nkA_len hky, List.length_map]
            refine ⟨l, D, us, ys, rfl, rfl, x6.lst hl3, hys, Nat.le_trans (show us.length + ys.length ≤ 100000 by omega) zl, fun p3 hp3 => ?_⟩
            have y3 := x6.trans (Xt.new (o := .lst (us ++ ys)) hp3)
            refine ⟨p3, _, _, _, us ++ ys, rows ++ (cl x).map (fun c => (Txt.mul ⟨#[c]⟩ 3, (1 : Int))), rfl, trivial, x3.xt y3, (x3.xt x6).free hp3, upd_same .., ?_, fun r hr => ?_, ?_⟩
            · rw [List.map_append, List.map_map]
              exact nkA_app (nkA_tk (.of_xt y3) _ _ hk3) (nkA_tk (.new hp3) _ _ hky)
            · rcases List.mem_append.mp hr with hr | hr
              · exact hw r hr
              · obtain ⟨c, hc, rfl⟩ := List.mem_map.mp hr
                exact (sm_mul (c := c) (n := 3) (m := 3) (hxa c hc) (by decide)).wd (by decide)
            · rw [List.length_append, List.length_map]
              omega
        · obtain ⟨l, a1, b1, c1, us, rows, rfl, _, xd, fl, hl, hk, hw, hn⟩ := hh
          exact ⟨_, rfl, k H3 l us rows xd fl hl hk hw (by omega)⟩


end
end K0
set_option Elab.async false
set_option linter.all false
set_option maxRecDepth 100000
set_option maxHeartbeats 4000000
namespace K0
open PySem PySem.Spec PyProof.Rows L2 Gx

open Lw Sn
/-! ### facts that are drawn -/
def spFacts (K : PySem.W.Frag) : Sp := fun vs H Q _ => ∃ (d q : Addr) (cs : List Str), vs = [.ref d, .ref q] ∧ Dr H d ∧ q ≠ d ∧ H q = some (.lst (cs.map V.str)) ∧ cs.length ≤ 7 ∧ (∀ x ∈ cs, Sm 13 x) ∧
  ∀ H1 l us (fs : List (Str × List Str)), Xd d H H1 → H l = none → H1 l = some (.lst us) → NkA K H1 (fs.map fk) us → (∀ f ∈ fs, Wf f) → fs.length ≤ 2000 → Q (.ref l) H1
structure Fx (K : PySem.W.Frag) (H : Hp) (d : Addr) (n : Nat) (l : Addr) (us : List V) (fs : List (Str × List Str)) (H' : Hp) : Prop where
  xd : Xd d H H'
  fl : H l = none
  hl : H' l = some (.lst us)
  hk : NkA K H' (fs.map fk) us
  hw : ∀ f ∈ fs, Wf f
  hn : fs.length ≤ n
theorem Fx.len {K : PySem.W.Frag} {H H' : Hp} {d l : Addr} {n : Nat} {us : List V} {fs : List (Str × List Str)} (h : Fx K H d n l us fs H') : us.length = fs.length := by rw [nkA_len h.hk, List.length_map]
theorem Fx.ne {K : PySem.W.Frag} {H H' : Hp} {d l : Addr} {n : Nat} {us : List V} {fs : List (Str × List Str)} (h : Fx K H d n l us fs H') (hd : Dr H d) : l ≠ d := (hd.ne_none h.fl).symm
theorem Fx.go {K : PySem.W.Frag} {H H' H2 : Hp} {d l : Addr} {n : Nat} {us : List V} {fs : List (Str × List Str)} (h : Fx K H d n l us fs H') (hd : Dr H d) (x : Xd d H' H2) : Fx K H d n l us fs H2 :=
  ⟨h.xd.trans x, h.fl, x.lst (h.ne hd) h.hl, nkA_tk (.of_xd h.xd.dr x) _ _ h.hk, h.hw, h.hn⟩
theorem Fx.up {K : PySem.W.Frag} {H H' : Hp} {d l : Addr} {n m : Nat} {us : List V} {fs : List (Str × List Str)} (h : Fx K H d n l us fs H') (e : n ≤ m) : Fx K H d m l us fs H' := ⟨h.xd, h.fl, h.hl, h.hk, h.hw, Nat.le_trans h.hn e⟩
theorem Fx.add {K : PySem.W.Frag} {H H' H2 : Hp} {d l : Addr} {n : Nat} {us : List V} {fs : List (Str × List Str)} {f : Str × List Str} {y : V} (h : Fx K H d n l us fs H') (hd : Dr H d) (x : Xt H' H2) (hy : NkV K H2 (fk f) y) (hf : Wf f) :
    Fx K H d (n + 1) l (us ++ [y]) (fs ++ [f]) (upd H2 l (.lst (us ++ [y]))) := by
  refine ⟨(h.xd.xt x).mut (h.ne hd).symm h.fl, h.fl, upd_same .., ?_, fun g hg => ?_, ?_⟩
  · rw [List.map_append]
    exact nkA_add x (x.lst h.hl) h.hk hy
  · rcases List.mem_append.mp hg with hg | hg
    · exact h.hw g hg
    · rw [List.mem_singleton.mp hg]; exact hf
  · rw [List.length_append]
    exact Nat.succ_le_succ h.hn
theorem nk_fact {K : PySem.W.Frag} {H : Hp} {p : Addr} {w : Str} {row : List Str} {v : V} (h : H p = some (.tup [.str w, v])) (hv : NkV K H (tk row) v) : NkV K H (fk (w, row)) (.ref p) :=
  nk_tup (ks := [.text w, tk row]) (xs := [.str w, v]) h (nkA_cons nk_text (nkA_cons hv nkA_nil))
def FactSt (K : PySem.W.Frag) (H : Hp) (d q : Addr) (n : Nat) (B : Option V → Prop) (σ : L2.St) (H' : Hp) : Prop := ∃ (l : Addr) (a b e v : Option V) (us : List V) (fs : List (Str × List Str)), σ = [some (.ref d), some (.ref q), some (.ref l), a, b, e, v] ∧ B e ∧ Fx K H d n l us fs H'
def red3 : List Str := [Str.ofString "red", Str.ofString "tie", Str.ofString "tri"]
theorem sm_red3 : ∀ x ∈ red3, Sm 13 x := fun x hx => sm_by ((List.all_eq_true (l := red3) (p := smB 13)).mp (by decide +kernel) x hx)
section
variable {P : Program} {w : World} {K : PySem.W.Frag} {mg : Str → Option Value} {base : Heap} {a : Ads}
theorem ok__law_facts (T : Txt K mg a) (B : TabT base mg a) (G__law_take : FnOk P w K mg base CX0 1 a.f__law_take a.fd__law_take ["draws", "bound"] (spTake)) (G__law_tuples : FnOk P w K mg base CX0 1 a.f__law_tuples a.fd__law_tuples ["items", "count"] (spTuples K)) : FnOk P w K mg base CX0 2 a.f__law_facts a.fd__law_facts ["draws", "constants"] (spFacts K) := by
  refine T.F__law_facts.ok sc__law_facts (fun vs H Q E h => ?_) (fun A outer s H vs Q E hr h => ?_)
  · obtain ⟨d, q, cs, rfl, _⟩ := h
    rfl
  · obtain ⟨d, q, cs, rfl, hd, hqd, hq, hc7, hcs, k⟩ := h
    refine ⟨_, (pss_cons (ps_set (i := 2) sc__law_facts.nd rfl (.inl rfl) (pe_lst pa_nil))
 (pss_cons (ps_for PassesOwn.never rfl (pi_range2 rfl T.range (pa_cons pe_int (pa_cons pe_int pa_nil))) (pg_name (i := 3) sc__law_facts.nd rfl (.inl rfl))
  (pss_one (ps_for PassesOwn.never rfl (Gx.pi_listK (K := K) rfl (pe_call G__law_tuples (hr.mono (by decide)) rfl T.g__law_tuples T.F__law_tuples.kp T.b__law_tuples .nil pass0 (pa_cons (pe_slice (Gx.sl_listK (K := K) rfl) (pv 1) po_none (po_some pe_int)) (pa_cons (pv 3) pa_nil)))) (pg_name (i := 4) sc__law_facts.nd rfl (.inl rfl))
  (pss_one (ps_if (pt_cmpR op_eq (pe_call G__law_take (hr.mono (by decide)) rfl T.g__law_take T.F__law_take.kp T.b__law_take .nil pass0 (pa_cons (pv 0) (pa_cons pe_int pa_nil))) pe_int (nomark _))
  (pss_one (ps_expr (Gx.pe_bmK (K := K) rfl PySem.F.plainAttrs_list PySem.F.slot_list_append PySem.F.type_list_append mt_append (pv 2) (pa_cons (pe_tup (pa_cons (pe_ix (Gx.ix_listK (K := K) rfl) (pe_lst (pa_cons pe_str (pa_cons pe_str (pa_cons pe_str pa_nil)))) (pe_op op_sub (pv 3) pe_int) (fun _ _ => rfl)) (pa_cons (pv 4) pa_nil))) pa_nil))))
  pss_nil)))))
 (pss_cons (ps_set (i := 5) sc__law_facts.nd rfl (.inl rfl) (pe_call G__law_take (hr.mono (by decide)) rfl T.g__law_take T.F__law_take.kp T.b__law_take .nil pass0 (pa_cons (pv 0) (pa_cons pe_int pa_nil))))
 (C8.pss_cut (ps_if (pt_cmpR op_eq (pv 5) pe_int (nomark _))
  (pss_one (ps_expr (Gx.pe_bmK (K := K) rfl PySem.F.plainAttrs_list PySem.F.slot_list_append PySem.F.type_list_append mt_append (pv 2) (pa_cons (pe_tup (pa_cons pe_str (pa_cons (pe_tup pa_nil) pa_nil))) pa_nil))))
  pss_nil)
 (C8.pss_cut (ps_if (pt_cmpR op_eq (pv 5) pe_int (nomark _))
  (pss_one (ps_expr (Gx.pe_bmK (K := K) rfl PySem.F.plainAttrs_list PySem.F.slot_list_append PySem.F.type_list_append mt_append (pv 2) (pa_cons (pe_tup (pa_cons pe_str (pa_cons (pe_tup (pa_cons pe_str (pa_cons pe_str pa_nil))) pa_nil))) pa_nil))))
  pss_nil)
 (C8.pss_cut (ps_if (PW.pt (pw_and (pt_cmpR op_eq (pv 5) pe_int (nomark _)) (pw_and1 (pt_cmpR (Gx.op_neDK (K := K) rfl hr.units) (pv 2) (pe_lst pa_nil) (nomark _)))))
  (pss_one (ps_expr (Gx.pe_bmK (K := K) rfl PySem.F.plainAttrs_list PySem.F.slot_list_append PySem.F.type_list_append mt_append (pv 2) (pa_cons (pe_ix (Gx.ix_listK (K := K) rfl) (pv 2) (pe_call G__law_take (hr.mono (by decide)) rfl T.g__law_take T.F__law_take.kp T.b__law_take .nil pass0 (pa_cons (pv 0) (pa_cons (pe_callB (Gx.call_len_seqK (K := K) rfl) rfl T.len (by decide +kernel) (pa_cons (pv 2) pa_nil)) pa_nil))) (fun _ _ => rfl)) pa_nil))))
  pss_nil)
 (C8.pss_cut (ps_if (PW.pt (pw_and (pt_cmpR op_eq (pv 5) pe_int (nomark _)) (pw_and1 (pt_cmpR op_gt (pe_callB (Gx.call_len_seqK (K := K) rfl) rfl T.len (by decide +kernel) (pa_cons (pv 1) pa_nil)) pe_int (nomark _)))))
  (pss_cons (ps_setLc (i := 6) (own := [("row", 4)]) rfl sc__law_facts.nd rfl rfl (sw_true rfl rfl rfl (by decide +kernel)) (Gx.pi_listK (K := K) rfl (pe_call G__law_tuples (hr.mono (by decide)) rfl T.g__law_tuples T.F__law_tuples.kp T.b__law_tuples .nil pass0 (pa_cons (pv 1) (pa_cons pe_int pa_nil)))) (blkOk_by (own := [("row", 4)]) (N := ["draws", "constants", "rows", "places", "row", "kind", "every"]) (sc := defScope s__law_facts) (by decide +kernel)) (fun _ _ _ _ _ => (pg_name (i := 4) sc__law_facts.nd rfl (.inl rfl))) (fun _ _ _ _ _ => pts_nil) (fun _ _ _ _ _ => (pe_tup (pa_cons pe_str (pa_cons (pv 4) pa_nil)))))
 (pss_one (ps_set (i := 2) sc__law_facts.nd rfl (.inl rfl) (pe_slice (Gx.sl_listK (K := K) rfl) (pv 6) po_none (po_some (pe_ix (Gx.ix_listK (K := K) rfl) (pe_lst (pa_cons pe_int (pa_cons pe_int pa_nil))) (pe_call G__law_take (hr.mono (by decide)) rfl T.g__law_take T.F__law_take.kp T.b__law_take .nil pass0 (pa_cons (pv 0) (pa_cons pe_int pa_nil))) (fun _ _ => rfl)))))))
  pss_nil)
 (pss_one (ps_ret (pv 2)))))))))), ?_⟩
    have zl : 100000 ≤ sizeLine := by decide
    refine ⟨Nat.zero_le _, fun l0 hl0 => ?_⟩
    have x0 := (Xt.new (o := .lst []) hl0).xd hd
    refine ⟨1, 4, rfl, ⟨by decide, by decide, by decide, by decide⟩, for_range (lo := 1) (n := ((4 : Int) - 1).toNat) (fun i => FactSt K H d q (343 * i) fun _ => True)
      ⟨l0, none, none, none, none, [], [], rfl, trivial, ⟨x0, hl0, upd_same .., nkA_nil, (fun r hr => by cases hr), Nat.zero_le _⟩⟩ (fun i σ H' hi hh => ?_) (fun σ H' hh => ?_)⟩
    · obtain ⟨l, a1, b1, e1, v1, us, fs, rfl, _, X⟩ := hh
      have hi3 : i < 3 := hi
      have e0 : (1 + (i : Int)) = ((i + 1 : Nat) : Int) := by omega
      rw [e0]
      refine ⟨_, rfl, 3, rfl, q, cs.map V.str, rfl, .inl (.inl (X.xd.lst hqd hq)), fun p hp => ?_⟩
      rw [show (3 : Int) = ((3 : Nat) : Int) from rfl, cut_take, ← List.map_take]
      have X2 := X.go hd ((Xt.new (o := .lst ((cs.take 3).map V.str)) hp).xd X.xd.dr)
      refine ⟨_, rfl, p, cs.take 3, i + 1, rfl, .inl (.inl (upd_same ..)), by rw [List.length_take]; omega, by omega, fun H4 l4 us4 rows4 x4 f4 h4 hk4 hr4 hn4 => ?_⟩
      have X4 := X2.go hd (x4.xd X2.xd.dr)
      have hne : l4 ≠ l := fun z => by
        have e := X2.hl
        rw [← z, f4] at e
        cases e
      have hl4d : l4 ≠ d := (X2.xd.dr.ne_none f4).symm
      refine ⟨l4, rfl, ⟨_, .inl (.inl h4)⟩, for_list (xs := us4) (fun j σ H5 => ∃ (b e v : Option V) (us : List V) (fs : List (Str × List Str)), σ = [some (.ref d), some (.ref q), some (.ref l), some (.int ((i + 1 : Nat) : Int)), b, e, v] ∧ Fx K H d (343 * i + j) l us fs H5 ∧ H5 l4 = some (.lst us4) ∧ NkA K H5 (rows4.map tk) us4)
        ⟨_, _, _, us, fs, rfl, X4, h4, hk4⟩ (fun j σ H5 _ ⟨b, e, v, us, fs, e1, X5, h5, hk5⟩ => .inl (.inl h5)) (fun j v σ H5 hv hh => ?_) (fun σ H5 hh => ?_)⟩
      · obtain ⟨b5, e5, v5, us5, fs5, rfl, X5, h5, hk5⟩ := hh
        have hj : j < us4.length := (List.getElem?_eq_some_iff.mp hv).1
        have h4l : us4.length = rows4.length := by rw [nkA_len hk5, List.length_map]
        have hjr : j < rows4.length := by omega
        refine ⟨_, rfl, d, 3, rfl, by decide, X5.xd.dr, fun H6 r6 x6 p0 p1 => ⟨rfl, _, rfl, ?_⟩⟩
        have X6 := X5.go hd x6
        have h6 := x6.lst hl4d h5
        have hk6 := nkA_tk (.of_xd X5.xd.dr x6) _ _ hk5
        refine ite2 (fun e => ?_) (fun e => ⟨_, _, _, us5, fs5, rfl, X6.up (by omega), h6, hk6⟩)
        refine ⟨_, rfl, .inl ⟨rfl, _, .inl (.inl X6.hl)⟩, Nat.le_trans (show 3 ≤ 100000 by decide) zl, fun t1 ht1 => ?_⟩
        have hir : i < red3.length := hi3
        refine ⟨_, rfl, _, _, rfl, rfl, t1, red3.map V.str, _, .str red3[i], rfl, rfl, .inl (.inl (upd_same ..)), (by rw [show (((i + 1 : Nat) : Int) - 1) = (i : Int) by omega]; exact atI_nat (by rw [List.getElem?_map, List.getElem?_eq_getElem hir]; rfl)), ?_⟩
        refine ⟨_, rfl, Nat.le_trans (show 2 ≤ 100000 by decide) zl, fun p1 hp1 => ?_⟩
        have y1 := (Xt.new (o := .lst (red3.map V.str)) ht1).trans (Xt.new (o := .tup [.str red3[i], v]) hp1)
        have hul := X6.len
        have hun := X6.hn
        refine ⟨l, us5, .ref p1, rfl, rfl, y1.lst X6.hl, Nat.lt_of_lt_of_le (show us5.length < 100000 by omega) zl, ?_⟩
        have hrj := hr4 _ (List.getElem_mem hjr)
        obtain ⟨kr, hk7, hk8⟩ := nkA_at (nkA_tk (.of_xt y1) _ _ hk6) hv
        rw [List.getElem?_map, List.getElem?_eq_getElem hjr] at hk7
        cases hk7
        have X7 := X6.add hd y1 (nk_fact (w := red3[i]) (row := rows4[j]) (upd_same ..) hk8) ⟨(sm_red3 _ (List.getElem_mem hir)).wd (by decide), fun x hx => (hcs x (List.mem_of_mem_take (hrj.2 x hx))).wd (by decide), Nat.le_trans hrj.1 (by decide)⟩
        have h7 := y1.lst h6
        refine ⟨_, _, _, _, _, rfl, X7, by rw [upd_ne hne]; exact h7, ?_⟩
        exact nkA_tk (.lst (y1.lst X6.hl)) _ _ (nkA_tk (.of_xt y1) _ _ hk6)
      · obtain ⟨b5, e5, v5, us5, fs5, rfl, X5, h5, hk5⟩ := hh
        have h4l : us4.length = rows4.length := by rw [nkA_len hk5, List.length_map]
        exact ⟨l, _, _, _, _, us5, fs5, rfl, trivial, X5.up (by omega)⟩
    · obtain ⟨l, a1, b1, e1, v1, us, fs, rfl, _, X⟩ := hh
      refine ⟨_, rfl, d, 10, rfl, by decide, X.xd.dr, fun H1 kd x1 p0 p1 => ?_⟩
      replace X := (X.go hd x1).up (show 343 * ((4 : Int) - 1).toNat ≤ 1029 by decide)
      have hul := X.len
      have hun := X.hn
      have szl : ∀ m, m ≤ 100000 → m ≤ sizeLine := fun m h => Nat.le_trans h zl
      refine ⟨FactSt K H d q 1030 fun e => ∃ m, e = some (.int m), ?_, fun σ H2 hh => ?_⟩
      · refine ⟨_, rfl, rfl, _, rfl, ite2 (fun e => ?_) (fun e => ⟨l, _, _, _, _, us, fs, rfl, ⟨_, rfl⟩, X.up (by decide)⟩)⟩
        refine ⟨_, rfl, .inl ⟨rfl, _, .inl (.inl X.hl)⟩, Nat.zero_le _, fun t1 ht1 => ⟨szl 2 (by decide), fun p hp => ?_⟩⟩
        have y1 := (Xt.new (o := .tup []) ht1).trans (Xt.new (o := .tup [.str (Str.ofString "red"), .ref t1]) hp)
        refine ⟨l, us, .ref p, rfl, rfl, y1.lst X.hl, Nat.lt_of_lt_of_le (show us.length < 100000 by omega) zl, ?_⟩
        exact ⟨l, _, _, _, _, _, _, rfl, ⟨_, rfl⟩, X.add hd y1 (nk_fact (w := Str.ofString "red") (row := []) (upd_same ..) (nk_tup (ks := []) (xs := []) ((Xt.new hp).tup (upd_same ..)) nkA_nil)) ⟨(sm_by (n := 13) (by decide +kernel)).wd (by decide), (fun x hx => by cases hx), Nat.zero_le _⟩⟩
      obtain ⟨l, a1, b1, e1, v1, us, fs, rfl, ⟨kd, rfl⟩, X⟩ := hh
      have hul := X.len
      have hun := X.hn
      refine ⟨FactSt K H d q 1031 fun e => ∃ m, e = some (.int m), ?_, fun σ H2 hh => ?_⟩
      · refine ⟨_, rfl, rfl, _, rfl, ite2 (fun e => ?_) (fun e => ⟨l, _, _, _, _, us, fs, rfl, ⟨_, rfl⟩, X.up (by decide)⟩)⟩
        refine ⟨_, rfl, .inl ⟨rfl, _, .inl (.inl X.hl)⟩, szl 2 (by decide), fun t1 ht1 => ⟨szl 2 (by decide), fun p hp => ?_⟩⟩
        have y1 := (Xt.new (o := .tup [.str (Str.ofString "zed"), .str (Str.ofString "zed")]) ht1).trans (Xt.new (o := .tup [.str (Str.ofString "tie"), .ref t1]) hp)
        refine ⟨l, us, .ref p, rfl, rfl, y1.lst X.hl, Nat.lt_of_lt_of_le (show us.length < 100000 by omega) zl, ?_⟩
        have wz : Wd (Str.ofString "zed") := (sm_by (n := 13) (by decide +kernel)).wd (by decide)
        exact ⟨l, _, _, _, _, _, _, rfl, ⟨_, rfl⟩, X.add hd y1 (nk_fact (w := Str.ofString "tie") (row := [Str.ofString "zed", Str.ofString "zed"]) (upd_same ..) (nk_tup (xs := [.str (Str.ofString "zed"), .str (Str.ofString "zed")]) ((Xt.new hp).tup (upd_same ..)) (nkA_texts [Str.ofString "zed", Str.ofString "zed"]))) ⟨(sm_by (n := 13) (by decide +kernel)).wd (by decide), (fun x hx => by
          rcases List.mem_cons.mp hx with rfl | hx
          · exact wz
          · rw [List.mem_singleton.mp hx]; exact wz), (by show 2 ≤ 1000; decide)⟩⟩
      obtain ⟨l, a1, b1, e1, v1, us, fs, rfl, ⟨kd, rfl⟩, X⟩ := hh
      have hul := X.len
      have hun := X.hn
      refine ⟨FactSt K H d q 1032 fun e => ∃ m, e = some (.int m), ?_, fun σ H2 hh => ?_⟩
      · refine ⟨_, rfl, rfl, _, rfl, ite2 (fun e => ?_) (fun e => iteF ⟨l, _, _, _, _, us, fs, rfl, ⟨_, rfl⟩, X.up (by decide)⟩)⟩
        refine ⟨_, rfl, nn_facts X.hl X.hk X.hw (fun H3 y3 => ⟨_, rfl, ite2 (fun e2 => ?_) (fun e2 => ⟨l, _, _, _, _, us, fs, rfl, ⟨_, rfl⟩, (X.go hd (y3.xd X.xd.dr)).up (by decide)⟩)⟩)⟩
        have X3 := X.go hd (y3.xd X.xd.dr)
        have hne : 0 < us.length := by
          rw [hul]
          cases fs with
          | nil => cases e2
          | cons a b => exact Nat.succ_pos _
        refine ⟨_, rfl, .inl ⟨rfl, _, .inl (.inl X3.hl)⟩, _, rfl, _, rfl, _, rfl, l, us, rfl, .inl (.inl (.inl X3.hl)), d, (us.length : Int), rfl, by omega, X3.xd.dr, fun H4 r4 x4 p0 p1 => ?_⟩
        have X4 := X3.go hd x4
        obtain ⟨jn, rfl⟩ := Int.eq_ofNat_of_zero_le p0
        have hjn : jn < us.length := by omega
        have hjf : jn < fs.length := by omega
        have hv := List.getElem?_eq_getElem hjn
        obtain ⟨kr, hk7, hk8⟩ := nkA_at X4.hk hv
        rw [List.getElem?_map, List.getElem?_eq_getElem hjf] at hk7
        cases hk7
        refine ⟨l, us, _, us[jn], rfl, rfl, .inl (.inl X4.hl), atI_nat hv, l, us, us[jn], rfl, rfl, X4.hl, Nat.lt_of_lt_of_le (show us.length < 100000 by omega) zl, ?_⟩
        exact ⟨l, _, _, _, _, _, _, rfl, ⟨_, rfl⟩, X4.add hd (Xt.refl _) hk8 (X4.hw _ (List.getElem_mem hjf))⟩
      obtain ⟨l, a1, b1, e1, v1, us, fs, rfl, ⟨kd, rfl⟩, X⟩ := hh
      have hul := X.len
      have hun := X.hn
      refine ⟨FactSt K H d q 1032 fun e => True, ?_, fun σ H2 hh => ?_⟩
      · refine ⟨_, rfl, rfl, _, rfl, ite2 (fun e => ?_) (fun e => iteF ⟨l, _, _, _, _, us, fs, rfl, trivial, X⟩)⟩
        refine ⟨_, rfl, q, _, rfl, .inl (.inl (.inl (X.xd.lst hqd hq))), _, _, rfl, rfl, _, rfl, ite2 (fun e2 => ?_) (fun e2 => ⟨l, _, _, _, _, us, fs, rfl, trivial, X⟩)⟩
        refine ⟨_, rfl, q, cs, 3, rfl, .inl (.inl (X.xd.lst hqd hq)), hc7, by decide, fun H4 l4 us4 rows4 x4 f4 h4 hk4 hr4 hn4 => ?_⟩
        have X4 := X.go hd (x4.xd X.xd.dr)
        have h4l : us4.length = rows4.length := by rw [nkA_len hk4, List.length_map]
        have wtri : Wd (Str.ofString "tri") := (sm_by (n := 13) (by decide +kernel)).wd (by decide)
        refine ⟨l4, rfl, ⟨_, .inl (.inl h4)⟩, fun D hD => lck_by (K := K) rows4 (fun r => fk (Str.ofString "tri", r)) h4l (.inl (.inl h4)) hD (szl _ (by omega)) (fun n v r hv hr2 H6 Y N xt kk => ?_) (fun H5 ys x5 hys hky => ?_)⟩
        · obtain ⟨kr, hk7, hk8⟩ := nkA_at (nkA_tk (.of_xt xt) _ _ hk4) hv
          rw [List.getElem?_map, hr2] at hk7
          cases hk7
          exact ⟨rfl, _, rfl, szl 2 (by decide), fun p hp => kk _ _ (Xt.new hp) (nk_fact (upd_same ..) (nkV_tk (.new hp) _ _ hk8))⟩
        · have X5 := X4.go hd (x5.xd X4.xd.dr)
          have hyl : ys.length = rows4.length := by rw [nkA_len hky, List.length_map]
          have hDd : D ≠ d := (X4.xd.dr.ne_none hD).symm
          refine ⟨_, rfl, szl 2 (by decide), fun t1 ht1 => ?_⟩
          have ht1d : t1 ≠ d := (X5.xd.dr.ne_none ht1).symm
          have x6 := (Xt.new (o := .lst (([200, 201] : List Nat).map fun n : Nat => V.int (n : Int))) ht1).xd X5.xd.dr
          refine ⟨_, rfl, d, 2, rfl, by decide, x6.dr, fun H7 r7 x7 p0 p1 => ?_⟩
          have x67 := x6.trans x7
          obtain ⟨kn, rfl⟩ := Int.eq_ofNat_of_zero_le p0
          have hkn : kn < ([200, 201] : List Nat).length := by show kn < 2; omega
          refine ⟨t1, _, _, .int (([200, 201] : List Nat)[kn] : Nat), rfl, rfl, .inl (.inl (x7.lst ht1d (upd_same ..))), atI_nat (show (([200, 201] : List Nat).map fun n : Nat => V.int (n : Int))[kn]? = some (V.int (([200, 201] : List Nat)[kn] : Nat)) from by rw [List.getElem?_map, List.getElem?_eq_getElem hkn]; rfl), _, rfl, D, ys, rfl, .inl (.inl (x67.lst hDd hys)), fun p hp => ?_⟩
          generalize ([200, 201] : List Nat)[kn] = m
          rw [cut_take]
          have hky7 := nkA_tk (.of_xd X5.xd.dr x67) _ _ hky
          have xf := (X5.xd.trans x67)
          refine ⟨p, _, _, _, _, ys.take m, (rows4.map fun r => (Str.ofString "tri", r)).take m, rfl, trivial, ⟨xf.xt (Xt.new hp), xf.free hp, upd_same .., ?_, fun f hf => ?_, ?_⟩⟩
          · rw [List.map_take, List.map_map]
            exact nkA_take m (nkA_tk (.new hp) _ _ hky7)
          · obtain ⟨r, hr9, rfl⟩ := List.mem_map.mp (List.mem_of_mem_take hf)
            exact ⟨wtri, fun x hx => (hcs x ((hr4 r hr9).2 x hx)).wd (by decide), Nat.le_trans (hr4 r hr9).1 (by decide)⟩
          · rw [List.length_take, List.length_map]
            omega
      obtain ⟨l, a1, b1, e1, v1, us, fs, rfl, _, X⟩ := hh
      exact ⟨_, rfl, k H2 l us fs X.xd X.fl X.hl X.hk X.hw (Nat.le_trans X.hn (by decide))⟩


end
end K0
set_option Elab.async false
set_option linter.all false
set_option maxRecDepth 100000
set_option maxHeartbeats 4000000
namespace K0
open PySem PySem.Spec PyProof.Rows L2 Gx

open Lw Sn
/-! ### the law -/
theorem sig_wd {kn un : List (Str × Int)} {r : Str} (h : sigF kn un = some r) : Wd r := by
  unfold sigF at h
  repeat' split at h
  all_goals first | (cases h; done) | (cases h; exact (sm_by (n := 20) (by decide +kernel)).wd (by decide))
theorem due_wd {cs : List Str} {fs : List (Str × List Str)} {r : Str} (h : dueW cs fs = some r) : Wd r := by
  unfold dueW worldF at h
  repeat' split at h
  all_goals first | (cases h; done) | (cases h; exact (sm_by (n := 20) (by decide +kernel)).wd (by decide))
theorem ne_opt {K : PySem.W.Frag} {o : Option Str} {H : Hp} {Q : VK} (hw : ∀ r, o = some r → Wd r) (q : Q (.bl false) H) : rNeD K (optV o) (optV o) H Q := by
  cases o with
  | none => exact ⟨_, _, .non, .non, by decide, by decide, q⟩
  | some r =>
    have s : SeqAt.shaped (.str r) = true := by
      show (PyData.canLay0 (.str r) && true) = true
      rw [lay_str (hw r rfl)]; rfl
    refine ⟨_, _, .str r, .str r, s, s, ?_⟩
    rw [show PyData.eqv (.str r) (.str r) = true from by show (r == r) = true; simp]
    exact q
theorem is_none (o : Option Str) : decide (optV o = V.non) = o.isNone := by cases o <;> simp [optV]
theorem ne_rels {K : PySem.W.Frag} {H : Hp} {Q : VK} {l m : Addr} {rs : List (Str × Int)} {us vs : List V} (h1 : H l = some (.lst us)) (h2 : H m = some (.lst vs)) (k1 : NkA K H (rs.map rk) us) (k2 : NkA K H (rs.map rk) vs) (hw : ∀ r ∈ rs, Wd r.1) (q : Q (.bl false) H) : rNeD K (.ref l) (.ref m) H Q := by
  refine ⟨_, _, .lst (.inl (.inl h1)) (dp_rels k1), .lst (.inl (.inl h2)) (dp_rels k2), shp_rels hw, shp_rels hw, ?_⟩
  rw [eqv_rels]
  exact q
theorem ne_facts {K : PySem.W.Frag} {H : Hp} {Q : VK} {l m : Addr} {rs : List (Str × List Str)} {us vs : List V} (h1 : H l = some (.lst us)) (h2 : H m = some (.lst vs)) (k1 : NkA K H (rs.map fk) us) (k2 : NkA K H (rs.map fk) vs) (hw : ∀ r ∈ rs, Wf r) (q : Q (.bl false) H) : rNeD K (.ref l) (.ref m) H Q := by
  refine ⟨_, _, .lst (.inl (.inl h1)) (dp_facts k1), .lst (.inl (.inl h2)) (dp_facts k2), shp_facts hw, shp_facts hw, ?_⟩
  rw [eqv_facts]
  exact q
theorem ne_texts {K : PySem.W.Frag} {H : Hp} {Q : VK} {l m : Addr} {cs : List Str} (h1 : H l = some (.lst (cs.map V.str))) (h2 : H m = some (.lst (cs.map V.str))) (hw : ∀ x ∈ cs, Wd x) (q : Q (.bl false) H) : rNeD K (.ref l) (.ref m) H Q := by
  refine ⟨_, _, .lst (.inl (.inl h1)) (dp_strs _), .lst (.inl (.inl h2)) (dp_strs _), shp_words hw, shp_words hw, ?_⟩
  rw [eqv_texts]
  exact q
structure Tabs (a : Ads) (H : Hp) : Prop where
  n : GxR.TabG H a.P_is_name
  b : GxR.TabG H a.P_is_about
  w : GxR.TabG H a.P_world_fault
  s : GxR.TabG H a.P_signature_fault
theorem Tabs.xd {a : Ads} {H H' : Hp} {d : Addr} (t : Tabs a H) (x : Xd d H H') : Tabs a H' := ⟨x.tabG t.n, x.tabG t.b, x.tabG t.w, x.tabG t.s⟩
theorem Tabs.xt {a : Ads} {H H' : Hp} (t : Tabs a H) (x : Xt H H') : Tabs a H' := ⟨x.tabG t.n, x.tabG t.b, x.tabG t.w, x.tabG t.s⟩
def spLaw (K : PySem.W.Frag) (a : Ads) : Sp := fun vs H Q _ => ∃ (q : Addr) (ns : List Int), vs = [.ref q] ∧ SqL K H q (ns.map V.int) ∧ ns.length ≤ 1000 ∧ Tabs a H ∧ ∀ H1, Q (.bl true) H1
/-- the loop's state -/
def LawSt (H1 : Hp) (q d : Addr) (σ : L2.St) (H' : Hp) : Prop := ∃ (v2 v3 v4 v5 v6 v7 v8 v9 v10 : Option V), σ = [some (.ref q), some (.ref d), v2, v3, v4, v5, v6, v7, v8, v9, v10] ∧ Xd d H1 H'
section
variable {P : Program} {w : World} {K : PySem.W.Frag} {mg : Str → Option Value} {base : Heap} {a : Ads}
theorem ok_law (T : Txt K mg a) (B : TabT base mg a) (G__law_draws : FnOk P w K mg base CX0 1 a.f__law_draws a.fd__law_draws ["script"] (spDraws K)) (G__law_take : FnOk P w K mg base CX0 1 a.f__law_take a.fd__law_take ["draws", "bound"] (spTake)) (G__law_relations : FnOk P w K mg base CX0 2 a.f__law_relations a.fd__law_relations ["draws", "letters"] (spRels K)) (G__law_signature_due : FnOk P w K mg base CX0 4 a.f__law_signature_due a.fd__law_signature_due ["known", "unknown"] (spDueS K)) (G__law_signature_told : FnOk P w K mg base CX0 7 a.f__law_signature_told a.fd__law_signature_told ["known", "unknown"] (spToldS K a)) (G__law_constants : FnOk P w K mg base CX0 2 a.f__law_constants a.fd__law_constants ["draws"] (spConsts)) (G__law_facts : FnOk P w K mg base CX0 2 a.f__law_facts a.fd__law_facts ["draws", "constants"] (spFacts K)) (G__law_world_due : FnOk P w K mg base CX0 4 a.f__law_world_due a.fd__law_world_due ["constants", "facts"] (spDueW K)) (G__law_world_told : FnOk P w K mg base CX0 7 a.f__law_world_told a.fd__law_world_told ["constants", "facts"] (spToldW K a)) (G_Signature_init : FnOk P w K mg base (L2.CX P w) 5 a.f_Signature_init a.fd_Signature_init ["self", "known", "unknown"] (spInitS K a)) (G_World_init : FnOk P w K mg base (L2.CX P w) 5 a.f_World_init a.fd_World_init ["self", "constants", "facts"] (spInitW K a)) : FnOk P w K mg base CX0 8 a.f_law a.fd_law ["script"] (spLaw K a) := by
  refine T.F_law.ok sc_law (fun vs H Q E h => ?_) (fun A outer s H vs Q E hr h => ?_)
  · obtain ⟨q, ns, rfl, _⟩ := h
    rfl
  · obtain ⟨q, ns, rfl, hs, hn, tt, k⟩ := h
    refine ⟨_, (pss_cons (ps_set (i := 1) sc_law.nd rfl (.inl rfl) (pe_call G__law_draws (hr.mono (by decide)) rfl T.g__law_draws T.F__law_draws.kp T.b__law_draws .nil pass0 (pa_cons (pv 0) pa_nil)))
 (pss_cons (ps_for PassesOwn.never rfl (pi_range1 rfl T.range (pa_cons pe_int pa_nil)) (pg_name (i := 2) sc_law.nd rfl (.inl rfl))
  (pss_cons (ps_set (i := 3) sc_law.nd rfl (.inl rfl) (pe_call G__law_relations (hr.mono (by decide)) rfl T.g__law_relations T.F__law_relations.kp T.b__law_relations .nil pass0 (pa_cons (pv 1) (pa_cons pe_str pa_nil))))
 (pss_cons (ps_set (i := 4) sc_law.nd rfl (.inl rfl) (pe_slice (Gx.sl_listK (K := K) rfl) (pe_call G__law_relations (hr.mono (by decide)) rfl T.g__law_relations T.F__law_relations.kp T.b__law_relations .nil pass0 (pa_cons (pv 1) (pa_cons pe_str pa_nil))) po_none (po_some (pe_op op_add pe_int (pe_call G__law_take (hr.mono (by decide)) rfl T.g__law_take T.F__law_take.kp T.b__law_take .nil pass0 (pa_cons (pv 1) (pa_cons pe_int pa_nil)))))))
 (pss_cons (ps_set (i := 5) sc_law.nd rfl (.inl rfl) (pe_call G__law_signature_due (hr.mono (by decide)) rfl T.g__law_signature_due T.F__law_signature_due.kp T.b__law_signature_due .nil pass0 (pa_cons (pv 3) (pa_cons (pv 4) pa_nil))))
 (pss_cons (ps_if (pt_cmpR (Gx.op_neDK (K := K) rfl hr.units) (pe_call G__law_signature_told (hr.mono (by decide)) rfl T.g__law_signature_told T.F__law_signature_told.kp T.b__law_signature_told .nil pass0 (pa_cons (pe_callTy (Gx.call_list_ofK (K := K) rfl) rfl T.list (by decide +kernel) (pa_cons (pv 3) pa_nil)) (pa_cons (pe_callTy (Gx.call_list_ofK (K := K) rfl) rfl T.list (by decide +kernel) (pa_cons (pv 4) pa_nil)) pa_nil))) (pv 5) (nomark _))
  (pss_one (ps_ret pe_bl))
  pss_nil)
 (C8.pss_cut (ps_if (pt_cmpR op_isN (pv 5) pe_non (nomark _))
  (pss_cons (ps_set (i := 6) sc_law.nd rfl (.inl rfl) (pe_callTy (Gx.call_list_ofK (K := K) rfl) rfl T.list (by decide +kernel) (pa_cons (pv 3) pa_nil)))
 (pss_cons (ps_set (i := 7) sc_law.nd rfl (.inl rfl) (pe_make T.M_Signature G_Signature_init (hr.mono (by decide)) rfl T.g_Signature T.b_Signature_init .nil passD (pa_cons (pv 6) (pa_cons (pe_callTy (Gx.call_list_ofK (K := K) rfl) rfl T.list (by decide +kernel) (pa_cons (pv 4) pa_nil)) pa_nil))))
 (pss_cons (ps_expr (Gx.pe_bmK (K := K) rfl PySem.F.plainAttrs_list PySem.F.slot_list_append PySem.F.type_list_append mt_append (pv 6) (pa_cons (pe_tup (pa_cons pe_str (pa_cons pe_int pa_nil))) pa_nil)))
 (pss_one (ps_if (PW.pt (pw_or (pt_cmpR (Gx.op_neDK (K := K) rfl hr.units) (pe_fld (pv 7) rfl) (pv 3) (nomark _)) (pw_or1 (pt_cmpR (Gx.op_neDK (K := K) rfl hr.units) (pe_fld (pv 7) rfl) (pv 4) (nomark _)))))
  (pss_one (ps_ret pe_bl))
  pss_nil)))))
  pss_nil)
 (pss_cons (ps_set (i := 8) sc_law.nd rfl (.inl rfl) (pe_call G__law_constants (hr.mono (by decide)) rfl T.g__law_constants T.F__law_constants.kp T.b__law_constants .nil pass0 (pa_cons (pv 1) pa_nil)))
 (pss_cons (ps_set (i := 9) sc_law.nd rfl (.inl rfl) (pe_call G__law_facts (hr.mono (by decide)) rfl T.g__law_facts T.F__law_facts.kp T.b__law_facts .nil pass0 (pa_cons (pv 1) (pa_cons (pv 8) pa_nil))))
 (pss_cons (ps_set (i := 5) sc_law.nd rfl (.inl rfl) (pe_call G__law_world_due (hr.mono (by decide)) rfl T.g__law_world_due T.F__law_world_due.kp T.b__law_world_due .nil pass0 (pa_cons (pv 8) (pa_cons (pv 9) pa_nil))))
 (pss_cons (ps_if (pt_cmpR (Gx.op_neDK (K := K) rfl hr.units) (pe_call G__law_world_told (hr.mono (by decide)) rfl T.g__law_world_told T.F__law_world_told.kp T.b__law_world_told .nil pass0 (pa_cons (pe_callTy (Gx.call_list_ofK (K := K) rfl) rfl T.list (by decide +kernel) (pa_cons (pv 8) pa_nil)) (pa_cons (pe_callTy (Gx.call_list_ofK (K := K) rfl) rfl T.list (by decide +kernel) (pa_cons (pv 9) pa_nil)) pa_nil))) (pv 5) (nomark _))
  (pss_one (ps_ret pe_bl))
  pss_nil)
 (pss_one (ps_if (pt_cmpR op_isN (pv 5) pe_non (nomark _))
  (pss_cons (ps_set (i := 6) sc_law.nd rfl (.inl rfl) (pe_callTy (Gx.call_list_ofK (K := K) rfl) rfl T.list (by decide +kernel) (pa_cons (pv 9) pa_nil)))
 (pss_cons (ps_set (i := 10) sc_law.nd rfl (.inl rfl) (pe_make T.M_World G_World_init (hr.mono (by decide)) rfl T.g_World T.b_World_init .nil passD (pa_cons (pe_callTy (Gx.call_list_ofK (K := K) rfl) rfl T.list (by decide +kernel) (pa_cons (pv 8) pa_nil)) (pa_cons (pv 6) pa_nil))))
 (pss_cons (ps_expr (Gx.pe_bmK (K := K) rfl PySem.F.plainAttrs_list PySem.F.slot_list_append PySem.F.type_list_append mt_append (pv 6) (pa_cons (pe_tup (pa_cons pe_str (pa_cons (pe_tup (pa_cons pe_str pa_nil)) pa_nil))) pa_nil)))
 (pss_one (ps_if (PW.pt (pw_or (pt_cmpR (Gx.op_neDK (K := K) rfl hr.units) (pe_fld (pv 10) rfl) (pv 8) (nomark _)) (pw_or1 (pt_cmpR (Gx.op_neDK (K := K) rfl hr.units) (pe_fld (pv 10) rfl) (pv 9) (nomark _)))))
  (pss_one (ps_ret pe_bl))
  pss_nil)))))
  pss_nil))))))))))))
 (pss_one (ps_ret pe_bl)))), ?_⟩
    have zl : 100000 ≤ sizeLine := by decide
    refine ⟨_, rfl, q, ns, rfl, hs, hn, fun H1 d x1 hd0 hd1 => ?_⟩
    replace tt := tt.xt x1
    refine ⟨3, rfl, by decide, by decide, for_range (n := ((3 : Int)).toNat) (fun _ => LawSt H1 q d) ⟨_, _, _, _, _, _, _, _, _, rfl, Xd.refl hd1⟩ (fun i σ H' hi hh => ?_) (fun σ H' hh => k H')⟩
    obtain ⟨v2, v3, v4, v5, v6, v7, v8, v9, v10, rfl, xd⟩ := hh
    refine ⟨_, rfl, d, _, rfl, xd.dr, by decide, by decide, by decide, fun H2 l1 us1 r1 x2 f1 h1 k1 w1 n1 => ?_⟩
    have l1d : l1 ≠ d := (xd.dr.ne_none f1).symm
    replace x2 := xd.trans x2
    refine ⟨_, rfl, d, _, rfl, x2.dr, by decide, by decide, by decide, fun H3 l2 us2 r2 x3 f2 h2 k2 w2 n2 => ?_⟩
    have l2d : l2 ≠ d := (x2.dr.ne_none f2).symm
    replace h1 := x3.lst l1d h1
    replace k1 := nkA_tk (.of_xd x2.dr x3) _ _ k1
    replace x3 := x2.trans x3
    refine ⟨_, rfl, d, 4, rfl, by decide, x3.dr, fun H4 m x4 m0 m1 => ⟨1, m, rfl, rfl, _, rfl, l2, us2, rfl, .inl (.inl (x4.lst l2d h2)), fun p hp => ?_⟩⟩
    obtain ⟨mn, rfl⟩ := Int.eq_ofNat_of_zero_le m0
    rw [show (1 + (mn : Int)) = ((1 + mn : Nat) : Int) by omega, cut_take]
    have hp5 : (upd H4 p (.lst (us2.take (1 + mn)))) p = some (.lst (us2.take (1 + mn))) := upd_same ..
    have x45 := x4.xt (Xt.new (o := .lst (us2.take (1 + mn))) hp)
    have x5 := x3.trans x45
    replace h1 := x45.lst l1d h1
    replace k1 := nkA_tk (.of_xd x3.dr x45) _ _ k1
    have k3 := nkA_take (1 + mn) (nkA_tk (.of_xd x3.dr x45) _ _ k2)
    rw [← List.map_take] at k3
    have w3 : ∀ r ∈ r2.take (1 + mn), Wd r.1 := fun r hr => w2 r (List.mem_of_mem_take hr)
    have n3 : (r2.take (1 + mn)).length ≤ 50 := by rw [List.length_take]; omega
    generalize us2.take (1 + mn) = us3 at hp5 x45 x5 k3 h1 k1
    generalize r2.take (1 + mn) = r3 at k3 w3 n3
    generalize upd H4 p (.lst us3) = H5 at hp5 x45 x5 k3 h1 k1
    have D1 : Rl K H5 l1 r1 us1 := ⟨.inl (.inl h1), k1, w1, by omega⟩
    have D2 : Rl K H5 p r3 us3 := ⟨.inl (.inl hp5), k3, w3, by omega⟩
    refine ⟨_, rfl, _, rfl, l1, p, r1, r3, us1, us3, rfl, h1, hp5, D1, D2, fun H6 y6 => ?_⟩
    have x6 := x5.xt y6
    refine ⟨_, rfl, l1, us1, rfl, .inl (D1.xt y6).l, fun g1 hg1 => ⟨_, rfl, p, us3, rfl, .inl ((D2.xt y6).xt (Xt.new hg1)).l, fun g2 hg2 => ?_⟩⟩
    have y8 := (Xt.new (o := .lst us1) hg1).trans (Xt.new (o := .lst us3) hg2)
    have E1 : Rl K (upd (upd H6 g1 (.lst us1)) g2 (.lst us3)) g1 r1 us1 := ⟨.inl (.inl ((Xt.new hg2).lst (upd_same ..))), (D1.xt (y6.trans y8)).k, w1, by omega⟩
    have E2 : Rl K (upd (upd H6 g1 (.lst us1)) g2 (.lst us3)) g2 r3 us3 := ⟨.inl (.inl (upd_same ..)), (D2.xt (y6.trans y8)).k, w3, by omega⟩
    have x8 := x6.xt y8
    generalize upd (upd H6 g1 (.lst us1)) g2 (.lst us3) = H8 at y8 E1 E2 x8
    refine ⟨g1, g2, r1, r3, us1, us3, rfl, E1, E2, (tt.xd x8).n, (tt.xd x8).s, fun H9 y9 => ⟨_, rfl, ne_opt (fun r e => sig_wd e) ⟨_, rfl, iteF ?_⟩⟩⟩
    have x9 := x8.xt y9
    have z9 := (y6.trans y8).trans y9
    refine ⟨LawSt H1 q d, ?_, fun σ H10 hh => ?_⟩
    · refine ⟨_, rfl, rfl, _, rfl, ite2 (fun e => ?_) (fun e => ⟨_, _, _, _, _, _, _, _, _, rfl, x9⟩)⟩
      have e0 : sigF r1 r3 = none := by
        rw [is_none] at e
        exact Option.isNone_iff_eq_none.mp e
      have F1 := D1.xt z9
      have F2 := D2.xt z9
      have u1 := z9.lst h1
      have u2 := z9.lst hp5
      refine ⟨_, rfl, l1, us1, rfl, .inl F1.l, fun gv hgv => ?_⟩
      have yg := Xt.new (o := .lst us1) hgv
      have hg : (upd H9 gv (.lst us1)) gv = some (.lst us1) := upd_same ..
      have l1g : l1 ≠ gv := fun z => by rw [← z, u1] at hgv; cases hgv
      have pg : p ≠ gv := fun z => by rw [← z, u2] at hgv; cases hgv
      have fg := x9.free hgv
      generalize upd H9 gv (.lst us1) = Ha at yg hg
      refine ⟨_, rfl, _, rfl, p, us3, rfl, .inl (F2.xt yg).l, fun g3 hg3 => ?_⟩
      have yb := Xt.new (o := .lst us3) hg3
      have hg3' : (upd Ha g3 (.lst us3)) g3 = some (.lst us3) := upd_same ..
      generalize upd Ha g3 (.lst us3) = Hb at yb hg3'
      have G1 : Rl K Hb gv r1 us1 := ⟨.inl (.inl (yb.lst hg)), (F1.xt (yg.trans yb)).k, w1, by omega⟩
      have G2 : Rl K Hb g3 r3 us3 := ⟨.inl (.inl hg3'), (F2.xt (yg.trans yb)).k, w3, by omega⟩
      have xb := x9.xt (yg.trans yb)
      refine fun o dx ho hdx hne => ⟨o, dx, gv, g3, Hb, r1, r3, us1, us3, rfl, ho, hdx, hne, rfl, G1, G2, (tt.xd xb).n, (tt.xd xb).s, (fun r H d e' => by rw [e0] at e'; cases e'), fun Hc m1 m2 _ yc hoc hm1 hm2 fm1 fm2 => ⟨rfl, ?_⟩⟩
      have gvm1 : m1 ≠ gv := fun z => by rw [z, yb.lst hg] at fm1; cases fm1
      have gvm2 : m2 ≠ gv := fun z => by rw [z, yb.lst hg] at fm2; cases fm2
      have gvo : o ≠ gv := fun z => by rw [z, yb.lst hg] at ho; cases ho
      have hgc := yc.lst (yb.lst hg)
      refine ⟨_, rfl, .inl ⟨rfl, _, .inl (.inl hgc)⟩, Nat.le_trans (show 2 ≤ 100000 by decide) zl, fun tp htp => ?_⟩
      have yt := Xt.new (o := .tup [.str (Str.ofString "late"), .int 1]) htp
      have hgt := yt.lst hgc
      refine ⟨gv, us1, .ref tp, rfl, rfl, hgt, Nat.lt_of_lt_of_le (show us1.length < 100000 by have := G1.len; omega) zl, ?_⟩
      have yall := (yg.trans yb).trans (yc.trans yt)
      have xall := (x9.xt yall).mut (o := .lst (us1 ++ [.ref tp])) (hd1.ne_none fg) fg
      have tk := Tk.lst (o := .lst (us1 ++ [.ref tp])) hgt
      refine ⟨_, rfl, o, _, dx, _, .ref m1, rfl, by rw [upd_ne gvo]; exact yt.keep _ _ hoc (fun _ => nofun), T.K_Signature, T.N_Signature_known, rfl, _, rfl, ne_rels (by rw [upd_ne gvm1]; exact yt.lst hm1) (by rw [upd_ne l1g]; exact yall.lst u1) (nkA_tk tk _ _ (F1.xt yall).k) (nkA_tk tk _ _ (F1.xt yall).k) w1 ⟨_, rfl, iteF ?_⟩⟩
      refine ⟨_, rfl, o, _, dx, _, .ref m2, rfl, by rw [upd_ne gvo]; exact yt.keep _ _ hoc (fun _ => nofun), T.K_Signature, T.N_Signature_unknown, rfl, _, rfl, ne_rels (by rw [upd_ne gvm2]; exact yt.lst hm2) (by rw [upd_ne pg]; exact yall.lst u2) (nkA_tk tk _ _ (F2.xt yall).k) (nkA_tk tk _ _ (F2.xt yall).k) w3 ⟨_, rfl, iteF ?_⟩⟩
      exact ⟨_, _, _, _, _, _, _, _, _, rfl, xall⟩
    · obtain ⟨v2, v3, v4, v5, v6, v7, v8, v9, v10, rfl, xd⟩ := hh
      refine ⟨_, rfl, d, rfl, xd.dr, fun H2 l1 cs x2 f1 h1 n1 w1 => ?_⟩
      have l1d : l1 ≠ d := (xd.dr.ne_none f1).symm
      replace x2 := xd.trans x2
      have wc : ∀ x ∈ cs, Wd x := fun x hx => (w1 x hx).wd (by decide)
      refine ⟨_, rfl, _, rfl, d, l1, cs, rfl, x2.dr, l1d, h1, n1, w1, fun H5 p us3 fs x3 f2 hp5 k3 w3 n3 => ?_⟩
      replace h1 := x3.lst l1d h1
      have x5 := x2.trans x3
      have D : CsFs K H5 l1 p cs fs us3 := ⟨.inl (.inl h1), wc, .inl (.inl hp5), k3, by omega⟩
      refine ⟨_, rfl, _, rfl, l1, p, cs, fs, us3, rfl, D, n3, w3, fun H6 y6 => ?_⟩
      have x6 := x5.xt y6
      refine ⟨_, rfl, l1, cs.map V.str, rfl, .inl (D.xt y6).c, fun g1 hg1 => ⟨_, rfl, p, us3, rfl, .inl ((D.xt y6).xt (Xt.new hg1)).f, fun g2 hg2 => ?_⟩⟩
      have y8 := (Xt.new (o := .lst (cs.map V.str)) hg1).trans (Xt.new (o := .lst us3) hg2)
      have E1 : CsFs K (upd (upd H6 g1 (.lst (cs.map V.str))) g2 (.lst us3)) g1 g2 cs fs us3 := ⟨.inl (.inl ((Xt.new hg2).lst (upd_same ..))), wc, .inl (.inl (upd_same ..)), (D.xt (y6.trans y8)).k, by omega⟩
      have x8 := x6.xt y8
      generalize upd (upd H6 g1 (.lst (cs.map V.str))) g2 (.lst us3) = H8 at y8 E1 x8
      refine ⟨g1, g2, cs, fs, us3, rfl, E1, (tt.xd x8).n, (tt.xd x8).b, (tt.xd x8).w, fun H9 y9 => ⟨_, rfl, ne_opt (fun r e => due_wd e) ⟨_, rfl, iteF ?_⟩⟩⟩
      have x9 := x8.xt y9
      have z9 := (y6.trans y8).trans y9
      refine ⟨_, rfl, rfl, _, rfl, ite2 (fun e => ?_) (fun e => ⟨_, _, _, _, _, _, _, _, _, rfl, x9⟩)⟩
      have e0 : dueW cs fs = none := by
        rw [is_none] at e
        exact Option.isNone_iff_eq_none.mp e
      have nl : ¬ 200 < fs.length := fun z => by
        rw [show dueW cs fs = some (Str.ofString "large facts") from if_pos z] at e0
        cases e0
      have e00 : worldF cs fs = none := (if_neg nl).symm.trans e0
      have F := D.xt z9
      have u1 := z9.lst h1
      have u2 := z9.lst hp5
      refine ⟨_, rfl, p, us3, rfl, .inl F.f, fun gv hgv => ?_⟩
      have yg := Xt.new (o := .lst us3) hgv
      have hg : (upd H9 gv (.lst us3)) gv = some (.lst us3) := upd_same ..
      have l1g : l1 ≠ gv := fun z => by rw [← z, u1] at hgv; cases hgv
      have pg : p ≠ gv := fun z => by rw [← z, u2] at hgv; cases hgv
      have fg := x9.free hgv
      generalize upd H9 gv (.lst us3) = Ha at yg hg
      refine ⟨_, rfl, l1, cs.map V.str, rfl, .inl (F.xt yg).c, fun g3 hg3 => ⟨_, rfl, ?_⟩⟩
      have yb := Xt.new (o := .lst (cs.map V.str)) hg3
      have hg3' : (upd Ha g3 (.lst (cs.map V.str))) g3 = some (.lst (cs.map V.str)) := upd_same ..
      generalize upd Ha g3 (.lst (cs.map V.str)) = Hb at yb hg3'
      have G : CsFs K Hb g3 gv cs fs us3 := ⟨.inl (.inl hg3'), wc, .inl (.inl (yb.lst hg)), (F.xt (yg.trans yb)).k, by omega⟩
      have xb := x9.xt (yg.trans yb)
      refine fun o dx ho hdx hne => ⟨o, dx, g3, gv, Hb, cs, fs, us3, rfl, ho, hdx, hne, rfl, G, (tt.xd xb).n, (tt.xd xb).b, (tt.xd xb).w, (fun H d z => absurd z nl), (fun r H d _ e' => by rw [e00] at e'; cases e'), fun Hc m1 m2 _ _ yc hoc hm1 hm2 fm1 fm2 => ⟨rfl, ?_⟩⟩
      have gvm1 : m1 ≠ gv := fun z => by rw [z, yb.lst hg] at fm1; cases fm1
      have gvm2 : m2 ≠ gv := fun z => by rw [z, yb.lst hg] at fm2; cases fm2
      have gvo : o ≠ gv := fun z => by rw [z, yb.lst hg] at ho; cases ho
      have hgc := yc.lst (yb.lst hg)
      refine ⟨_, rfl, .inl ⟨rfl, _, .inl (.inl hgc)⟩, Nat.le_trans (show 1 ≤ 100000 by decide) zl, fun t0 ht0 => ⟨Nat.le_trans (show 2 ≤ 100000 by decide) zl, fun tp htp => ?_⟩⟩
      have yt := (Xt.new (o := .tup [.str (Str.ofString "ann")]) ht0).trans (Xt.new (o := .tup [.str (Str.ofString "late"), .ref t0]) htp)
      have hgt := yt.lst hgc
      refine ⟨gv, us3, .ref tp, rfl, rfl, hgt, Nat.lt_of_lt_of_le (show us3.length < 100000 by have := G.len; omega) zl, ?_⟩
      have yall := (yg.trans yb).trans (yc.trans yt)
      have xall := (x9.xt yall).mut (o := .lst (us3 ++ [.ref tp])) (hd1.ne_none fg) fg
      have tk := Tk.lst (o := .lst (us3 ++ [.ref tp])) hgt
      refine ⟨_, rfl, o, _, dx, _, .ref m1, rfl, by rw [upd_ne gvo]; exact yt.keep _ _ hoc (fun _ => nofun), T.K_World, T.N_World_constants, rfl, _, rfl, ne_texts (by rw [upd_ne gvm1]; exact yt.lst hm1) (by rw [upd_ne l1g]; exact yall.lst u1) wc ⟨_, rfl, iteF ?_⟩⟩
      refine ⟨_, rfl, o, _, dx, _, .ref m2, rfl, by rw [upd_ne gvo]; exact yt.keep _ _ hoc (fun _ => nofun), T.K_World, T.N_World_facts, rfl, _, rfl, ne_facts (by rw [upd_ne gvm2]; exact yt.lst hm2) (by rw [upd_ne pg]; exact yall.lst u2) (nkA_tk tk _ _ (F.xt yall).k) (nkA_tk tk _ _ (F.xt yall).k) w3 ⟨_, rfl, iteF ?_⟩⟩
      exact ⟨_, _, _, _, _, _, _, _, _, rfl, xall⟩


end
end K0
set_option Elab.async false
set_option linter.all false
set_option maxRecDepth 100000
namespace Gx
open PySem PySem.Spec PyProof.Rows L2
theorem FunQ.toFun {K : PySem.W.Frag} {x qual : Str} {st : Stmt} {f c : Addr} {fd : FuncData} (F : FunQ K x qual st f fd c) : Fun K x qual st f fd := by
  obtain ⟨oc, od, kV, doc, pm, an, ct, osl, rfl, lk, hc⟩ := F.ex
  exact ⟨⟨oc, od, kV, doc, pm, an, .ref c, ct, osl, rfl, lk, hc⟩, F.kp⟩
theorem funQ_mk {K : PySem.W.Frag} {x qual : Str} {st : Stmt} {f c : Addr} {od an : Option Addr} {sl : Array (Option Value)} {oc kV dc pm ct : Value} (l : K.lookup f = some ⟨oc, od, .func (PySem.W.fnOf x qual (defArgs st) (defBody st) (defScope st) .none kV dc pm an (.ref c) ct), sl⟩)
    (hc : PySem.W.codeIn K (.ref c) qual = true) (hk : PySem.W.keepIn K (.ref f) = true) : FunQ K x qual st f (PySem.W.fnOf x qual (defArgs st) (defBody st) (defScope st) .none kV dc pm an (.ref c) ct) c := ⟨⟨oc, od, kV, dc, pm, an, ct, sl, rfl, l, hc⟩, hk⟩
end Gx
set_option Elab.async false
set_option linter.all false
set_option maxRecDepth 100000
set_option maxHeartbeats 4000000
namespace K0
open PySem PySem.Spec PyProof.Rows L2 Gx
/-! ### what the top has left -/
theorem end_mk {l : PySem.W.OpenLaw} {w : World} {K : PySem.W.Frag} {h : Heap} {mg : Str → Option Value} {fa : Addr} (X : K.In h) (G : h.Ns mainGlobals mg) (hfa : mg "law" = some (.ref fa))
    (own : ∀ y ∈ (["is_name", "world_fault", "is_about", "signature_fault"] : List Str), ∀ f, mg y = some (.ref f) → LamX.OwnTab K f h)
    {C_FewrulesError : Addr} (g_FewrulesError : PySem.W.nsIn K mainGlobals "FewrulesError" = some (some (.ref C_FewrulesError)))
    {C_TooLarge : Addr} (g_TooLarge : PySem.W.nsIn K mainGlobals "TooLarge" = some (some (.ref C_TooLarge)))
    {C_InvalidSignature : Addr} (g_InvalidSignature : PySem.W.nsIn K mainGlobals "InvalidSignature" = some (some (.ref C_InvalidSignature)))
    {C_InvalidWorld : Addr} (g_InvalidWorld : PySem.W.nsIn K mainGlobals "InvalidWorld" = some (some (.ref C_InvalidWorld)))
    {C_World : Addr} (g_World : PySem.W.nsIn K mainGlobals "World" = some (some (.ref C_World)))
    {C_Signature : Addr} (g_Signature : PySem.W.nsIn K mainGlobals "Signature" = some (some (.ref C_Signature)))
    {f0 c0 : Addr} {od0 an0 : Option Addr} {sl0 : Array (Option Value)} {oc0 kV0 dc0 pm0 ct0 : Value}
    (a0 : PySem.W.nsIn K mainGlobals "is_name" = some (some (.ref f0))) (l0 : K.lookup f0 = some ⟨oc0, od0, .func (PySem.W.fnOf "is_name" "is_name" (defArgs s_is_name) (defBody s_is_name) (defScope s_is_name) .none kV0 dc0 pm0 an0 (.ref c0) ct0), sl0⟩) (c_0 : PySem.W.codeIn K (.ref c0) "is_name" = true) (k0 : PySem.W.keepIn K (.ref f0) = true)
    {f1 c1 : Addr} {od1 an1 : Option Addr} {sl1 : Array (Option Value)} {oc1 kV1 dc1 pm1 ct1 : Value}
    (a1 : PySem.W.findIn K (.ref C_World) "__init__" = some (some (.ref f1))) (l1 : K.lookup f1 = some ⟨oc1, od1, .func (PySem.W.fnOf "__init__" "World.__init__" (defArgs s_World_init) (defBody s_World_init) (defScope s_World_init) .none kV1 dc1 pm1 an1 (.ref c1) ct1), sl1⟩) (c_1 : PySem.W.codeIn K (.ref c1) "World.__init__" = true) (k1 : PySem.W.keepIn K (.ref f1) = true)
    {f2 c2 : Addr} {od2 an2 : Option Addr} {sl2 : Array (Option Value)} {oc2 kV2 dc2 pm2 ct2 : Value}
    (a2 : PySem.W.nsIn K mainGlobals "world_fault" = some (some (.ref f2))) (l2 : K.lookup f2 = some ⟨oc2, od2, .func (PySem.W.fnOf "world_fault" "world_fault" (defArgs s_world_fault) (defBody s_world_fault) (defScope s_world_fault) .none kV2 dc2 pm2 an2 (.ref c2) ct2), sl2⟩) (c_2 : PySem.W.codeIn K (.ref c2) "world_fault" = true) (k2 : PySem.W.keepIn K (.ref f2) = true)
    {f3 c3 : Addr} {od3 an3 : Option Addr} {sl3 : Array (Option Value)} {oc3 kV3 dc3 pm3 ct3 : Value}
    (a3 : PySem.W.nsIn K mainGlobals "is_about" = some (some (.ref f3))) (l3 : K.lookup f3 = some ⟨oc3, od3, .func (PySem.W.fnOf "is_about" "is_about" (defArgs s_is_about) (defBody s_is_about) (defScope s_is_about) .none kV3 dc3 pm3 an3 (.ref c3) ct3), sl3⟩) (c_3 : PySem.W.codeIn K (.ref c3) "is_about" = true) (k3 : PySem.W.keepIn K (.ref f3) = true)
    {f4 c4 : Addr} {od4 an4 : Option Addr} {sl4 : Array (Option Value)} {oc4 kV4 dc4 pm4 ct4 : Value}
    (a4 : PySem.W.findIn K (.ref C_Signature) "__init__" = some (some (.ref f4))) (l4 : K.lookup f4 = some ⟨oc4, od4, .func (PySem.W.fnOf "__init__" "Signature.__init__" (defArgs s_Signature_init) (defBody s_Signature_init) (defScope s_Signature_init) .none kV4 dc4 pm4 an4 (.ref c4) ct4), sl4⟩) (c_4 : PySem.W.codeIn K (.ref c4) "Signature.__init__" = true) (k4 : PySem.W.keepIn K (.ref f4) = true)
    {f5 c5 : Addr} {od5 an5 : Option Addr} {sl5 : Array (Option Value)} {oc5 kV5 dc5 pm5 ct5 : Value}
    (a5 : PySem.W.nsIn K mainGlobals "signature_fault" = some (some (.ref f5))) (l5 : K.lookup f5 = some ⟨oc5, od5, .func (PySem.W.fnOf "signature_fault" "signature_fault" (defArgs s_signature_fault) (defBody s_signature_fault) (defScope s_signature_fault) .none kV5 dc5 pm5 an5 (.ref c5) ct5), sl5⟩) (c_5 : PySem.W.codeIn K (.ref c5) "signature_fault" = true) (k5 : PySem.W.keepIn K (.ref f5) = true)
    {f6 c6 : Addr} {od6 an6 : Option Addr} {sl6 : Array (Option Value)} {oc6 kV6 dc6 pm6 ct6 : Value}
    (a6 : PySem.W.nsIn K mainGlobals "_law_draws" = some (some (.ref f6))) (l6 : K.lookup f6 = some ⟨oc6, od6, .func (PySem.W.fnOf "_law_draws" "_law_draws" (defArgs s__law_draws) (defBody s__law_draws) (defScope s__law_draws) .none kV6 dc6 pm6 an6 (.ref c6) ct6), sl6⟩) (c_6 : PySem.W.codeIn K (.ref c6) "_law_draws" = true) (k6 : PySem.W.keepIn K (.ref f6) = true)
    {f7 c7 : Addr} {od7 an7 : Option Addr} {sl7 : Array (Option Value)} {oc7 kV7 dc7 pm7 ct7 : Value}
    (a7 : PySem.W.nsIn K mainGlobals "_law_take" = some (some (.ref f7))) (l7 : K.lookup f7 = some ⟨oc7, od7, .func (PySem.W.fnOf "_law_take" "_law_take" (defArgs s__law_take) (defBody s__law_take) (defScope s__law_take) .none kV7 dc7 pm7 an7 (.ref c7) ct7), sl7⟩) (c_7 : PySem.W.codeIn K (.ref c7) "_law_take" = true) (k7 : PySem.W.keepIn K (.ref f7) = true)
    {f8 c8 : Addr} {od8 an8 : Option Addr} {sl8 : Array (Option Value)} {oc8 kV8 dc8 pm8 ct8 : Value}
    (a8 : PySem.W.nsIn K mainGlobals "_law_tuples" = some (some (.ref f8))) (l8 : K.lookup f8 = some ⟨oc8, od8, .func (PySem.W.fnOf "_law_tuples" "_law_tuples" (defArgs s__law_tuples) (defBody s__law_tuples) (defScope s__law_tuples) .none kV8 dc8 pm8 an8 (.ref c8) ct8), sl8⟩) (c_8 : PySem.W.codeIn K (.ref c8) "_law_tuples" = true) (k8 : PySem.W.keepIn K (.ref f8) = true)
    {f9 c9 : Addr} {od9 an9 : Option Addr} {sl9 : Array (Option Value)} {oc9 kV9 dc9 pm9 ct9 : Value}
    (a9 : PySem.W.nsIn K mainGlobals "_law_is_name" = some (some (.ref f9))) (l9 : K.lookup f9 = some ⟨oc9, od9, .func (PySem.W.fnOf "_law_is_name" "_law_is_name" (defArgs s__law_is_name) (defBody s__law_is_name) (defScope s__law_is_name) .none kV9 dc9 pm9 an9 (.ref c9) ct9), sl9⟩) (c_9 : PySem.W.codeIn K (.ref c9) "_law_is_name" = true) (k9 : PySem.W.keepIn K (.ref f9) = true)
    {f10 c10 : Addr} {od10 an10 : Option Addr} {sl10 : Array (Option Value)} {oc10 kV10 dc10 pm10 ct10 : Value}
    (a10 : PySem.W.nsIn K mainGlobals "_law_relations" = some (some (.ref f10))) (l10 : K.lookup f10 = some ⟨oc10, od10, .func (PySem.W.fnOf "_law_relations" "_law_relations" (defArgs s__law_relations) (defBody s__law_relations) (defScope s__law_relations) .none kV10 dc10 pm10 an10 (.ref c10) ct10), sl10⟩) (c_10 : PySem.W.codeIn K (.ref c10) "_law_relations" = true) (k10 : PySem.W.keepIn K (.ref f10) = true)
    {f11 c11 : Addr} {od11 an11 : Option Addr} {sl11 : Array (Option Value)} {oc11 kV11 dc11 pm11 ct11 : Value}
    (a11 : PySem.W.nsIn K mainGlobals "_law_signature_due" = some (some (.ref f11))) (l11 : K.lookup f11 = some ⟨oc11, od11, .func (PySem.W.fnOf "_law_signature_due" "_law_signature_due" (defArgs s__law_signature_due) (defBody s__law_signature_due) (defScope s__law_signature_due) .none kV11 dc11 pm11 an11 (.ref c11) ct11), sl11⟩) (c_11 : PySem.W.codeIn K (.ref c11) "_law_signature_due" = true) (k11 : PySem.W.keepIn K (.ref f11) = true)
    {f12 c12 : Addr} {od12 an12 : Option Addr} {sl12 : Array (Option Value)} {oc12 kV12 dc12 pm12 ct12 : Value}
    (a12 : PySem.W.nsIn K mainGlobals "_law_signature_told" = some (some (.ref f12))) (l12 : K.lookup f12 = some ⟨oc12, od12, .func (PySem.W.fnOf "_law_signature_told" "_law_signature_told" (defArgs s__law_signature_told) (defBody s__law_signature_told) (defScope s__law_signature_told) .none kV12 dc12 pm12 an12 (.ref c12) ct12), sl12⟩) (c_12 : PySem.W.codeIn K (.ref c12) "_law_signature_told" = true) (k12 : PySem.W.keepIn K (.ref f12) = true)
    {f13 c13 : Addr} {od13 an13 : Option Addr} {sl13 : Array (Option Value)} {oc13 kV13 dc13 pm13 ct13 : Value}
    (a13 : PySem.W.nsIn K mainGlobals "_law_constants" = some (some (.ref f13))) (l13 : K.lookup f13 = some ⟨oc13, od13, .func (PySem.W.fnOf "_law_constants" "_law_constants" (defArgs s__law_constants) (defBody s__law_constants) (defScope s__law_constants) .none kV13 dc13 pm13 an13 (.ref c13) ct13), sl13⟩) (c_13 : PySem.W.codeIn K (.ref c13) "_law_constants" = true) (k13 : PySem.W.keepIn K (.ref f13) = true)
    {f14 c14 : Addr} {od14 an14 : Option Addr} {sl14 : Array (Option Value)} {oc14 kV14 dc14 pm14 ct14 : Value}
    (a14 : PySem.W.nsIn K mainGlobals "_law_facts" = some (some (.ref f14))) (l14 : K.lookup f14 = some ⟨oc14, od14, .func (PySem.W.fnOf "_law_facts" "_law_facts" (defArgs s__law_facts) (defBody s__law_facts) (defScope s__law_facts) .none kV14 dc14 pm14 an14 (.ref c14) ct14), sl14⟩) (c_14 : PySem.W.codeIn K (.ref c14) "_law_facts" = true) (k14 : PySem.W.keepIn K (.ref f14) = true)
    {f15 c15 : Addr} {od15 an15 : Option Addr} {sl15 : Array (Option Value)} {oc15 kV15 dc15 pm15 ct15 : Value}
    (a15 : PySem.W.nsIn K mainGlobals "_law_world_due" = some (some (.ref f15))) (l15 : K.lookup f15 = some ⟨oc15, od15, .func (PySem.W.fnOf "_law_world_due" "_law_world_due" (defArgs s__law_world_due) (defBody s__law_world_due) (defScope s__law_world_due) .none kV15 dc15 pm15 an15 (.ref c15) ct15), sl15⟩) (c_15 : PySem.W.codeIn K (.ref c15) "_law_world_due" = true) (k15 : PySem.W.keepIn K (.ref f15) = true)
    {f16 c16 : Addr} {od16 an16 : Option Addr} {sl16 : Array (Option Value)} {oc16 kV16 dc16 pm16 ct16 : Value}
    (a16 : PySem.W.nsIn K mainGlobals "_law_world_told" = some (some (.ref f16))) (l16 : K.lookup f16 = some ⟨oc16, od16, .func (PySem.W.fnOf "_law_world_told" "_law_world_told" (defArgs s__law_world_told) (defBody s__law_world_told) (defScope s__law_world_told) .none kV16 dc16 pm16 an16 (.ref c16) ct16), sl16⟩) (c_16 : PySem.W.codeIn K (.ref c16) "_law_world_told" = true) (k16 : PySem.W.keepIn K (.ref f16) = true)
    {f17 c17 : Addr} {od17 an17 : Option Addr} {sl17 : Array (Option Value)} {oc17 kV17 dc17 pm17 ct17 : Value}
    (a17 : PySem.W.nsIn K mainGlobals "law" = some (some (.ref f17))) (l17 : K.lookup f17 = some ⟨oc17, od17, .func (PySem.W.fnOf "law" "law" (defArgs s_law) (defBody s_law) (defScope s_law) .none kV17 dc17 pm17 an17 (.ref c17) ct17), sl17⟩) (c_17 : PySem.W.codeIn K (.ref c17) "law" = true) (k17 : PySem.W.keepIn K (.ref f17) = true)
    {P0 : Addr} {te0 : Value} {td0 : Option Addr} {tv0 : Array Value} {ts0 : Array (Option Value)} (t0 : K.lookup c0 = some ⟨te0, td0, .fields tv0, ts0⟩) (u0 : tv0[11]? = some (.ref P0)) (n0 : K.lookup P0 = none) (h0 : hdB te0 tv0 c0 P0 = true)
    {P2 : Addr} {te2 : Value} {td2 : Option Addr} {tv2 : Array Value} {ts2 : Array (Option Value)} (t2 : K.lookup c2 = some ⟨te2, td2, .fields tv2, ts2⟩) (u2 : tv2[11]? = some (.ref P2)) (n2 : K.lookup P2 = none) (h2 : hdB te2 tv2 c2 P2 = true)
    {P3 : Addr} {te3 : Value} {td3 : Option Addr} {tv3 : Array Value} {ts3 : Array (Option Value)} (t3 : K.lookup c3 = some ⟨te3, td3, .fields tv3, ts3⟩) (u3 : tv3[11]? = some (.ref P3)) (n3 : K.lookup P3 = none) (h3 : hdB te3 tv3 c3 P3 = true)
    {P5 : Addr} {te5 : Value} {td5 : Option Addr} {tv5 : Array Value} {ts5 : Array (Option Value)} (t5 : K.lookup c5 = some ⟨te5, td5, .fields tv5, ts5⟩) (u5 : tv5[11]? = some (.ref P5)) (n5 : K.lookup P5 = none) (h5 : hdB te5 tv5 c5 P5 = true)
    (z_len : PySem.W.nsIn K mainGlobals "len" = some none)
    (z_all : PySem.W.nsIn K mainGlobals "all" = some none)
    (z_abs : PySem.W.nsIn K mainGlobals "abs" = some none)
    (z_int : PySem.W.nsIn K mainGlobals "int" = some none)
    (z_range : PySem.W.nsIn K mainGlobals "range" = some none)
    (z_list : PySem.W.nsIn K mainGlobals "list" = some none)
    (z_reversed : PySem.W.nsIn K mainGlobals "reversed" = some none)
    (z_isinstance : PySem.W.nsIn K mainGlobals "isinstance" = some none)
    (z_tuple : PySem.W.nsIn K mainGlobals "tuple" = some none)
    (z_set : PySem.W.nsIn K mainGlobals "set" = some none)
    {tk_LETTERS : Tok} (m_LETTERS : PySem.W.nsIn K mainGlobals "LETTERS" = some (some (.str "abcdefghijklmnopqrstuvwxyz" tk_LETTERS)))
    {tk_MOST_FACTS : Tok} (m_MOST_FACTS : PySem.W.nsIn K mainGlobals "MOST_FACTS" = some (some (.int 200 tk_MOST_FACTS)))
    {I_TooLarge N_TooLarge : Addr} {n1_TooLarge q_TooLarge : Str} {bs_TooLarge bm_TooLarge sub_TooLarge : List Value} {sn_TooLarge : List Str} {ab_TooLarge : Bool} {col_TooLarge : Option Bool} {dd_TooLarge : Option Addr} {k0_TooLarge k1_TooLarge k2_TooLarge k3_TooLarge k5_TooLarge : Option Value}
    (e1_TooLarge : K.lookup C_TooLarge = some (excClassObj n1_TooLarge q_TooLarge C_TooLarge N_TooLarge bs_TooLarge bm_TooLarge true sn_TooLarge sub_TooLarge ab_TooLarge col_TooLarge dd_TooLarge k0_TooLarge k1_TooLarge k2_TooLarge k3_TooLarge k5_TooLarge "ValueError.__new__")) (e2_TooLarge : PySem.HandSPX.refsVE bm_TooLarge = true)
    (e3_TooLarge : PySem.W.findIn K (.ref C_TooLarge) "__setattr__" = some (some (.builtin "object.__setattr__"))) (e4_TooLarge : PySem.W.findIn K (.ref C_TooLarge) "__getattribute__" = some (some (.builtin "BaseException.__getattribute__"))) (e5_TooLarge : PySem.W.findIn K (.ref C_TooLarge) "__getattr__" = some none) (e6_TooLarge : PySem.W.findIn K (.ref C_TooLarge) "limit" = some none)
    (e7_TooLarge : PySem.W.findIn K (.ref C_TooLarge) "__init__" = some (some (.ref I_TooLarge))) (e8_TooLarge : PySem.W.typeIn K (.ref I_TooLarge) = some (.type "function")) (e9_TooLarge : PySem.W.keepIn K (.ref C_TooLarge) = true) (e10_TooLarge : PySem.W.subIn K (.ref C_TooLarge) (.type "BaseException") = some true) (e11_TooLarge : PySem.W.typeIn K (.ref C_TooLarge) = some (.type "type")) (e12_TooLarge : PySem.W.hasDictIn K C_TooLarge = true) (e13_TooLarge : PySem.W.exmOne K (.ref C_TooLarge) (.ref C_TooLarge) = some true)
    {oc_TooLarge doc_TooLarge pm_TooLarge cdv_TooLarge ct_TooLarge : Value} {od_TooLarge an_TooLarge : Option Addr} {osl_TooLarge : Array (Option Value)} {p1_TooLarge p2_TooLarge q1_TooLarge q2_TooLarge q3_TooLarge q4_TooLarge : Pos} {qn_TooLarge : Str}
    (e14_TooLarge : K.lookup I_TooLarge = some ⟨oc_TooLarge, od_TooLarge, .func (PySem.W.fnOf "__init__" qn_TooLarge (PySem.Er.eA "limit" p1_TooLarge p2_TooLarge) (PySem.Er.eB "limit" q1_TooLarge q2_TooLarge q3_TooLarge q4_TooLarge) (PySem.Er.eS "limit") .none .none doc_TooLarge pm_TooLarge an_TooLarge cdv_TooLarge ct_TooLarge), osl_TooLarge⟩) (e15_TooLarge : PySem.W.codeIn K cdv_TooLarge qn_TooLarge = true)
    (e16_TooLarge : (PySem.W.clsIn K C_TooLarge).isSome = true) (e17_TooLarge : PySem.W.findIn K (.ref C_TooLarge) "__class__" = some (some (.builtin "object.__class__"))) (e18_TooLarge : PySem.W.specialIn K (.builtin "object.__class__") "__get__" = some (some (.builtin "getset_descriptor.__get__"))) (e19_TooLarge : PySem.W.takesIn K (.builtin "object.__class__") = some true) (e20_TooLarge : PySem.W.mroIn K C_TooLarge (.type "object") = some true)
    {I_InvalidSignature N_InvalidSignature : Addr} {n1_InvalidSignature q_InvalidSignature : Str} {bs_InvalidSignature bm_InvalidSignature sub_InvalidSignature : List Value} {sn_InvalidSignature : List Str} {ab_InvalidSignature : Bool} {col_InvalidSignature : Option Bool} {dd_InvalidSignature : Option Addr} {k0_InvalidSignature k1_InvalidSignature k2_InvalidSignature k3_InvalidSignature k5_InvalidSignature : Option Value}
    (e1_InvalidSignature : K.lookup C_InvalidSignature = some (excClassObj n1_InvalidSignature q_InvalidSignature C_InvalidSignature N_InvalidSignature bs_InvalidSignature bm_InvalidSignature true sn_InvalidSignature sub_InvalidSignature ab_InvalidSignature col_InvalidSignature dd_InvalidSignature k0_InvalidSignature k1_InvalidSignature k2_InvalidSignature k3_InvalidSignature k5_InvalidSignature "ValueError.__new__")) (e2_InvalidSignature : PySem.HandSPX.refsVE bm_InvalidSignature = true)
    (e3_InvalidSignature : PySem.W.findIn K (.ref C_InvalidSignature) "__setattr__" = some (some (.builtin "object.__setattr__"))) (e4_InvalidSignature : PySem.W.findIn K (.ref C_InvalidSignature) "__getattribute__" = some (some (.builtin "BaseException.__getattribute__"))) (e5_InvalidSignature : PySem.W.findIn K (.ref C_InvalidSignature) "__getattr__" = some none) (e6_InvalidSignature : PySem.W.findIn K (.ref C_InvalidSignature) "reason" = some none)
    (e7_InvalidSignature : PySem.W.findIn K (.ref C_InvalidSignature) "__init__" = some (some (.ref I_InvalidSignature))) (e8_InvalidSignature : PySem.W.typeIn K (.ref I_InvalidSignature) = some (.type "function")) (e9_InvalidSignature : PySem.W.keepIn K (.ref C_InvalidSignature) = true) (e10_InvalidSignature : PySem.W.subIn K (.ref C_InvalidSignature) (.type "BaseException") = some true) (e11_InvalidSignature : PySem.W.typeIn K (.ref C_InvalidSignature) = some (.type "type")) (e12_InvalidSignature : PySem.W.hasDictIn K C_InvalidSignature = true) (e13_InvalidSignature : PySem.W.exmOne K (.ref C_InvalidSignature) (.ref C_InvalidSignature) = some true)
    {oc_InvalidSignature doc_InvalidSignature pm_InvalidSignature cdv_InvalidSignature ct_InvalidSignature : Value} {od_InvalidSignature an_InvalidSignature : Option Addr} {osl_InvalidSignature : Array (Option Value)} {p1_InvalidSignature p2_InvalidSignature q1_InvalidSignature q2_InvalidSignature q3_InvalidSignature q4_InvalidSignature : Pos} {qn_InvalidSignature : Str}
    (e14_InvalidSignature : K.lookup I_InvalidSignature = some ⟨oc_InvalidSignature, od_InvalidSignature, .func (PySem.W.fnOf "__init__" qn_InvalidSignature (PySem.Er.eA "reason" p1_InvalidSignature p2_InvalidSignature) (PySem.Er.eB "reason" q1_InvalidSignature q2_InvalidSignature q3_InvalidSignature q4_InvalidSignature) (PySem.Er.eS "reason") .none .none doc_InvalidSignature pm_InvalidSignature an_InvalidSignature cdv_InvalidSignature ct_InvalidSignature), osl_InvalidSignature⟩) (e15_InvalidSignature : PySem.W.codeIn K cdv_InvalidSignature qn_InvalidSignature = true)
    (e16_InvalidSignature : (PySem.W.clsIn K C_InvalidSignature).isSome = true) (e17_InvalidSignature : PySem.W.findIn K (.ref C_InvalidSignature) "__class__" = some (some (.builtin "object.__class__"))) (e18_InvalidSignature : PySem.W.specialIn K (.builtin "object.__class__") "__get__" = some (some (.builtin "getset_descriptor.__get__"))) (e19_InvalidSignature : PySem.W.takesIn K (.builtin "object.__class__") = some true) (e20_InvalidSignature : PySem.W.mroIn K C_InvalidSignature (.type "object") = some true)
    {I_InvalidWorld N_InvalidWorld : Addr} {n1_InvalidWorld q_InvalidWorld : Str} {bs_InvalidWorld bm_InvalidWorld sub_InvalidWorld : List Value} {sn_InvalidWorld : List Str} {ab_InvalidWorld : Bool} {col_InvalidWorld : Option Bool} {dd_InvalidWorld : Option Addr} {k0_InvalidWorld k1_InvalidWorld k2_InvalidWorld k3_InvalidWorld k5_InvalidWorld : Option Value}
    (e1_InvalidWorld : K.lookup C_InvalidWorld = some (excClassObj n1_InvalidWorld q_InvalidWorld C_InvalidWorld N_InvalidWorld bs_InvalidWorld bm_InvalidWorld true sn_InvalidWorld sub_InvalidWorld ab_InvalidWorld col_InvalidWorld dd_InvalidWorld k0_InvalidWorld k1_InvalidWorld k2_InvalidWorld k3_InvalidWorld k5_InvalidWorld "ValueError.__new__")) (e2_InvalidWorld : PySem.HandSPX.refsVE bm_InvalidWorld = true)
    (e3_InvalidWorld : PySem.W.findIn K (.ref C_InvalidWorld) "__setattr__" = some (some (.builtin "object.__setattr__"))) (e4_InvalidWorld : PySem.W.findIn K (.ref C_InvalidWorld) "__getattribute__" = some (some (.builtin "BaseException.__getattribute__"))) (e5_InvalidWorld : PySem.W.findIn K (.ref C_InvalidWorld) "__getattr__" = some none) (e6_InvalidWorld : PySem.W.findIn K (.ref C_InvalidWorld) "reason" = some none)
    (e7_InvalidWorld : PySem.W.findIn K (.ref C_InvalidWorld) "__init__" = some (some (.ref I_InvalidWorld))) (e8_InvalidWorld : PySem.W.typeIn K (.ref I_InvalidWorld) = some (.type "function")) (e9_InvalidWorld : PySem.W.keepIn K (.ref C_InvalidWorld) = true) (e10_InvalidWorld : PySem.W.subIn K (.ref C_InvalidWorld) (.type "BaseException") = some true) (e11_InvalidWorld : PySem.W.typeIn K (.ref C_InvalidWorld) = some (.type "type")) (e12_InvalidWorld : PySem.W.hasDictIn K C_InvalidWorld = true) (e13_InvalidWorld : PySem.W.exmOne K (.ref C_InvalidWorld) (.ref C_InvalidWorld) = some true)
    {oc_InvalidWorld doc_InvalidWorld pm_InvalidWorld cdv_InvalidWorld ct_InvalidWorld : Value} {od_InvalidWorld an_InvalidWorld : Option Addr} {osl_InvalidWorld : Array (Option Value)} {p1_InvalidWorld p2_InvalidWorld q1_InvalidWorld q2_InvalidWorld q3_InvalidWorld q4_InvalidWorld : Pos} {qn_InvalidWorld : Str}
    (e14_InvalidWorld : K.lookup I_InvalidWorld = some ⟨oc_InvalidWorld, od_InvalidWorld, .func (PySem.W.fnOf "__init__" qn_InvalidWorld (PySem.Er.eA "reason" p1_InvalidWorld p2_InvalidWorld) (PySem.Er.eB "reason" q1_InvalidWorld q2_InvalidWorld q3_InvalidWorld q4_InvalidWorld) (PySem.Er.eS "reason") .none .none doc_InvalidWorld pm_InvalidWorld an_InvalidWorld cdv_InvalidWorld ct_InvalidWorld), osl_InvalidWorld⟩) (e15_InvalidWorld : PySem.W.codeIn K cdv_InvalidWorld qn_InvalidWorld = true)
    (e16_InvalidWorld : (PySem.W.clsIn K C_InvalidWorld).isSome = true) (e17_InvalidWorld : PySem.W.findIn K (.ref C_InvalidWorld) "__class__" = some (some (.builtin "object.__class__"))) (e18_InvalidWorld : PySem.W.specialIn K (.builtin "object.__class__") "__get__" = some (some (.builtin "getset_descriptor.__get__"))) (e19_InvalidWorld : PySem.W.takesIn K (.builtin "object.__class__") = some true) (e20_InvalidWorld : PySem.W.mroIn K C_InvalidWorld (.type "object") = some true)
    (m1_World : PySem.W.makesIn K C_World = true) (m2_World : PySem.W.isFn K (.ref f1) = true) (m3_World : PySem.W.keepIn K (.ref C_World) = true) (m4_World : PySem.W.plainGet K C_World Str.empty = true) (m5_World : PySem.W.hasDictIn K C_World = true) (m6_World : PySem.W.plainOver K C_World = true) (m7_World : PySem.W.findIn K (.ref C_World) "__setattr__" = some (some (.builtin "object.__setattr__")))
    (f_World_constants : PySem.W.findIn K (.ref C_World) "constants" = some none)
    (f_World_facts : PySem.W.findIn K (.ref C_World) "facts" = some none)
    (m1_Signature : PySem.W.makesIn K C_Signature = true) (m2_Signature : PySem.W.isFn K (.ref f4) = true) (m3_Signature : PySem.W.keepIn K (.ref C_Signature) = true) (m4_Signature : PySem.W.plainGet K C_Signature Str.empty = true) (m5_Signature : PySem.W.hasDictIn K C_Signature = true) (m6_Signature : PySem.W.plainOver K C_Signature = true) (m7_Signature : PySem.W.findIn K (.ref C_Signature) "__setattr__" = some (some (.builtin "object.__setattr__")))
    (f_Signature_known : PySem.W.findIn K (.ref C_Signature) "known" = some none)
    (f_Signature_unknown : PySem.W.findIn K (.ref C_Signature) "unknown" = some none)
    (x_InvalidSignature_InvalidSignature : PySem.W.exmOne K (.ref C_InvalidSignature) (.ref C_InvalidSignature) = some true)
    (x_InvalidWorld_InvalidWorld : PySem.W.exmOne K (.ref C_InvalidWorld) (.ref C_InvalidWorld) = some true)
    (x_TooLarge_InvalidWorld : PySem.W.exmOne K (.ref C_TooLarge) (.ref C_InvalidWorld) = some false)
    (x_TooLarge_TooLarge : PySem.W.exmOne K (.ref C_TooLarge) (.ref C_TooLarge) = some true)
    (k_InvalidSignature_FewrulesError : PySem.W.kitOne K (.ref C_InvalidSignature) (.ref C_FewrulesError) = some true)
    (k_InvalidWorld_FewrulesError : PySem.W.kitOne K (.ref C_InvalidWorld) (.ref C_FewrulesError) = some true)
    : LamX.LawAtS l w K CX0 8 63 "script" mg fa h := by
  have e := hfa.symm.trans (PySem.W.mg_of X G a17)
  have e2 : f17 = fa := by cases e; rfl
  subst e2
  have F0 := funT_mk (st := s_is_name) l0 c_0 k0
  have F1 := funQ_mk (st := s_World_init) l1 c_1 k1
  have F2 := funT_mk (st := s_world_fault) l2 c_2 k2
  have F3 := funT_mk (st := s_is_about) l3 c_3 k3
  have F4 := funQ_mk (st := s_Signature_init) l4 c_4 k4
  have F5 := funT_mk (st := s_signature_fault) l5 c_5 k5
  have F6 := funT_mk (st := s__law_draws) l6 c_6 k6
  have F7 := funT_mk (st := s__law_take) l7 c_7 k7
  have F8 := funT_mk (st := s__law_tuples) l8 c_8 k8
  have F9 := funT_mk (st := s__law_is_name) l9 c_9 k9
  have F10 := funT_mk (st := s__law_relations) l10 c_10 k10
  have F11 := funT_mk (st := s__law_signature_due) l11 c_11 k11
  have F12 := funT_mk (st := s__law_signature_told) l12 c_12 k12
  have F13 := funT_mk (st := s__law_constants) l13 c_13 k13
  have F14 := funT_mk (st := s__law_facts) l14 c_14 k14
  have F15 := funT_mk (st := s__law_world_due) l15 c_15 k15
  have F16 := funT_mk (st := s__law_world_told) l16 c_16 k16
  have F17 := funT_mk (st := s_law) l17 c_17 k17
  have b0 := F0.toFun.binds (ps := ["word"]) fun _ _ _ _ _ _ us hl => match us, hl with | [_], _ => rfl
  have b1 := F1.toFun.binds (ps := ["self", "constants", "facts"]) fun _ _ _ _ _ _ us hl => match us, hl with | [_, _, _], _ => rfl
  have b2 := F2.toFun.binds (ps := ["constants", "facts"]) fun _ _ _ _ _ _ us hl => match us, hl with | [_, _], _ => rfl
  have b3 := F3.toFun.binds (ps := ["fact", "constants"]) fun _ _ _ _ _ _ us hl => match us, hl with | [_, _], _ => rfl
  have b4 := F4.toFun.binds (ps := ["self", "known", "unknown"]) fun _ _ _ _ _ _ us hl => match us, hl with | [_, _, _], _ => rfl
  have b5 := F5.toFun.binds (ps := ["known", "unknown"]) fun _ _ _ _ _ _ us hl => match us, hl with | [_, _], _ => rfl
  have b6 := F6.toFun.binds (ps := ["script"]) fun _ _ _ _ _ _ us hl => match us, hl with | [_], _ => rfl
  have b7 := F7.toFun.binds (ps := ["draws", "bound"]) fun _ _ _ _ _ _ us hl => match us, hl with | [_, _], _ => rfl
  have b8 := F8.toFun.binds (ps := ["items", "count"]) fun _ _ _ _ _ _ us hl => match us, hl with | [_, _], _ => rfl
  have b9 := F9.toFun.binds (ps := ["word"]) fun _ _ _ _ _ _ us hl => match us, hl with | [_], _ => rfl
  have b10 := F10.toFun.binds (ps := ["draws", "letters"]) fun _ _ _ _ _ _ us hl => match us, hl with | [_, _], _ => rfl
  have b11 := F11.toFun.binds (ps := ["known", "unknown"]) fun _ _ _ _ _ _ us hl => match us, hl with | [_, _], _ => rfl
  have b12 := F12.toFun.binds (ps := ["known", "unknown"]) fun _ _ _ _ _ _ us hl => match us, hl with | [_, _], _ => rfl
  have b13 := F13.toFun.binds (ps := ["draws"]) fun _ _ _ _ _ _ us hl => match us, hl with | [_], _ => rfl
  have b14 := F14.toFun.binds (ps := ["draws", "constants"]) fun _ _ _ _ _ _ us hl => match us, hl with | [_, _], _ => rfl
  have b15 := F15.toFun.binds (ps := ["constants", "facts"]) fun _ _ _ _ _ _ us hl => match us, hl with | [_, _], _ => rfl
  have b16 := F16.toFun.binds (ps := ["constants", "facts"]) fun _ _ _ _ _ _ us hl => match us, hl with | [_, _], _ => rfl
  have b17 := F17.toFun.binds (ps := ["script"]) fun _ _ _ _ _ _ us hl => match us, hl with | [_], _ => rfl
  let a : Ads := { f_is_name := f0, c_is_name := c0, P_is_name := P0, fd_is_name := PySem.W.fnOf "is_name" "is_name" (defArgs s_is_name) (defBody s_is_name) (defScope s_is_name) .none kV0 dc0 pm0 an0 (.ref c0) ct0,  f_World_init := f1, c_World_init := c1, P_World_init := 0, fd_World_init := PySem.W.fnOf "__init__" "World.__init__" (defArgs s_World_init) (defBody s_World_init) (defScope s_World_init) .none kV1 dc1 pm1 an1 (.ref c1) ct1,  f_world_fault := f2, c_world_fault := c2, P_world_fault := P2, fd_world_fault := PySem.W.fnOf "world_fault" "world_fault" (defArgs s_world_fault) (defBody s_world_fault) (defScope s_world_fault) .none kV2 dc2 pm2 an2 (.ref c2) ct2,  f_is_about := f3, c_is_about := c3, P_is_about := P3, fd_is_about := PySem.W.fnOf "is_about" "is_about" (defArgs s_is_about) (defBody s_is_about) (defScope s_is_about) .none kV3 dc3 pm3 an3 (.ref c3) ct3,  f_Signature_init := f4, c_Signature_init := c4, P_Signature_init := 0, fd_Signature_init := PySem.W.fnOf "__init__" "Signature.__init__" (defArgs s_Signature_init) (defBody s_Signature_init) (defScope s_Signature_init) .none kV4 dc4 pm4 an4 (.ref c4) ct4,  f_signature_fault := f5, c_signature_fault := c5, P_signature_fault := P5, fd_signature_fault := PySem.W.fnOf "signature_fault" "signature_fault" (defArgs s_signature_fault) (defBody s_signature_fault) (defScope s_signature_fault) .none kV5 dc5 pm5 an5 (.ref c5) ct5,  f__law_draws := f6, c__law_draws := c6, P__law_draws := 0, fd__law_draws := PySem.W.fnOf "_law_draws" "_law_draws" (defArgs s__law_draws) (defBody s__law_draws) (defScope s__law_draws) .none kV6 dc6 pm6 an6 (.ref c6) ct6,  f__law_take := f7, c__law_take := c7, P__law_take := 0, fd__law_take := PySem.W.fnOf "_law_take" "_law_take" (defArgs s__law_take) (defBody s__law_take) (defScope s__law_take) .none kV7 dc7 pm7 an7 (.ref c7) ct7,  f__law_tuples := f8, c__law_tuples := c8, P__law_tuples := 0, fd__law_tuples := PySem.W.fnOf "_law_tuples" "_law_tuples" (defArgs s__law_tuples) (defBody s__law_tuples) (defScope s__law_tuples) .none kV8 dc8 pm8 an8 (.ref c8) ct8,  f__law_is_name := f9, c__law_is_name := c9, P__law_is_name := 0, fd__law_is_name := PySem.W.fnOf "_law_is_name" "_law_is_name" (defArgs s__law_is_name) (defBody s__law_is_name) (defScope s__law_is_name) .none kV9 dc9 pm9 an9 (.ref c9) ct9,  f__law_relations := f10, c__law_relations := c10, P__law_relations := 0, fd__law_relations := PySem.W.fnOf "_law_relations" "_law_relations" (defArgs s__law_relations) (defBody s__law_relations) (defScope s__law_relations) .none kV10 dc10 pm10 an10 (.ref c10) ct10,  f__law_signature_due := f11, c__law_signature_due := c11, P__law_signature_due := 0, fd__law_signature_due := PySem.W.fnOf "_law_signature_due" "_law_signature_due" (defArgs s__law_signature_due) (defBody s__law_signature_due) (defScope s__law_signature_due) .none kV11 dc11 pm11 an11 (.ref c11) ct11,  f__law_signature_told := f12, c__law_signature_told := c12, P__law_signature_told := 0, fd__law_signature_told := PySem.W.fnOf "_law_signature_told" "_law_signature_told" (defArgs s__law_signature_told) (defBody s__law_signature_told) (defScope s__law_signature_told) .none kV12 dc12 pm12 an12 (.ref c12) ct12,  f__law_constants := f13, c__law_constants := c13, P__law_constants := 0, fd__law_constants := PySem.W.fnOf "_law_constants" "_law_constants" (defArgs s__law_constants) (defBody s__law_constants) (defScope s__law_constants) .none kV13 dc13 pm13 an13 (.ref c13) ct13,  f__law_facts := f14, c__law_facts := c14, P__law_facts := 0, fd__law_facts := PySem.W.fnOf "_law_facts" "_law_facts" (defArgs s__law_facts) (defBody s__law_facts) (defScope s__law_facts) .none kV14 dc14 pm14 an14 (.ref c14) ct14,  f__law_world_due := f15, c__law_world_due := c15, P__law_world_due := 0, fd__law_world_due := PySem.W.fnOf "_law_world_due" "_law_world_due" (defArgs s__law_world_due) (defBody s__law_world_due) (defScope s__law_world_due) .none kV15 dc15 pm15 an15 (.ref c15) ct15,  f__law_world_told := f16, c__law_world_told := c16, P__law_world_told := 0, fd__law_world_told := PySem.W.fnOf "_law_world_told" "_law_world_told" (defArgs s__law_world_told) (defBody s__law_world_told) (defScope s__law_world_told) .none kV16 dc16 pm16 an16 (.ref c16) ct16,  f_law := f17, c_law := c17, P_law := 0, fd_law := PySem.W.fnOf "law" "law" (defArgs s_law) (defBody s_law) (defScope s_law) .none kV17 dc17 pm17 an17 (.ref c17) ct17, C_FewrulesError := C_FewrulesError, C_TooLarge := C_TooLarge, I_TooLarge := I_TooLarge, C_InvalidSignature := C_InvalidSignature, I_InvalidSignature := I_InvalidSignature, C_InvalidWorld := C_InvalidWorld, I_InvalidWorld := I_InvalidWorld, C_World := C_World, C_Signature := C_Signature }
  have T : Txt K mg a := { g_is_name := PySem.W.mg_of X G a0, F_is_name := F0, b_is_name := b0,  F_World_init := F1, b_World_init := b1,  g_world_fault := PySem.W.mg_of X G a2, F_world_fault := F2, b_world_fault := b2,  g_is_about := PySem.W.mg_of X G a3, F_is_about := F3, b_is_about := b3,  F_Signature_init := F4, b_Signature_init := b4,  g_signature_fault := PySem.W.mg_of X G a5, F_signature_fault := F5, b_signature_fault := b5,  g__law_draws := PySem.W.mg_of X G a6, F__law_draws := F6, b__law_draws := b6,  g__law_take := PySem.W.mg_of X G a7, F__law_take := F7, b__law_take := b7,  g__law_tuples := PySem.W.mg_of X G a8, F__law_tuples := F8, b__law_tuples := b8,  g__law_is_name := PySem.W.mg_of X G a9, F__law_is_name := F9, b__law_is_name := b9,  g__law_relations := PySem.W.mg_of X G a10, F__law_relations := F10, b__law_relations := b10,  g__law_signature_due := PySem.W.mg_of X G a11, F__law_signature_due := F11, b__law_signature_due := b11,  g__law_signature_told := PySem.W.mg_of X G a12, F__law_signature_told := F12, b__law_signature_told := b12,  g__law_constants := PySem.W.mg_of X G a13, F__law_constants := F13, b__law_constants := b13,  g__law_facts := PySem.W.mg_of X G a14, F__law_facts := F14, b__law_facts := b14,  g__law_world_due := PySem.W.mg_of X G a15, F__law_world_due := F15, b__law_world_due := b15,  g__law_world_told := PySem.W.mg_of X G a16, F__law_world_told := F16, b__law_world_told := b16,  g_law := PySem.W.mg_of X G a17, F_law := F17, b_law := b17, g_FewrulesError := PySem.W.mg_of X G g_FewrulesError, g_TooLarge := PySem.W.mg_of X G g_TooLarge, E_TooLarge := ⟨PySem.W.mg_of X G g_TooLarge, PySem.Er.flOk_limit, ⟨_, _, _, _, _, _, _, _, _, _, _, _, _, _, _, e1_TooLarge, e2_TooLarge⟩, e3_TooLarge, e4_TooLarge, e5_TooLarge, e6_TooLarge, e7_TooLarge, e8_TooLarge, e9_TooLarge, e10_TooLarge, e11_TooLarge, e12_TooLarge, e13_TooLarge, ⟨_, _, _, _, _, _, _, _, _, _, _, _, _, _, _, e14_TooLarge, e15_TooLarge⟩⟩, EI_TooLarge := ⟨e16_TooLarge, e17_TooLarge, e18_TooLarge, e19_TooLarge, e20_TooLarge⟩, g_InvalidSignature := PySem.W.mg_of X G g_InvalidSignature, E_InvalidSignature := ⟨PySem.W.mg_of X G g_InvalidSignature, PySem.Er.flOk_reason, ⟨_, _, _, _, _, _, _, _, _, _, _, _, _, _, _, e1_InvalidSignature, e2_InvalidSignature⟩, e3_InvalidSignature, e4_InvalidSignature, e5_InvalidSignature, e6_InvalidSignature, e7_InvalidSignature, e8_InvalidSignature, e9_InvalidSignature, e10_InvalidSignature, e11_InvalidSignature, e12_InvalidSignature, e13_InvalidSignature, ⟨_, _, _, _, _, _, _, _, _, _, _, _, _, _, _, e14_InvalidSignature, e15_InvalidSignature⟩⟩, EI_InvalidSignature := ⟨e16_InvalidSignature, e17_InvalidSignature, e18_InvalidSignature, e19_InvalidSignature, e20_InvalidSignature⟩, g_InvalidWorld := PySem.W.mg_of X G g_InvalidWorld, E_InvalidWorld := ⟨PySem.W.mg_of X G g_InvalidWorld, PySem.Er.flOk_reason, ⟨_, _, _, _, _, _, _, _, _, _, _, _, _, _, _, e1_InvalidWorld, e2_InvalidWorld⟩, e3_InvalidWorld, e4_InvalidWorld, e5_InvalidWorld, e6_InvalidWorld, e7_InvalidWorld, e8_InvalidWorld, e9_InvalidWorld, e10_InvalidWorld, e11_InvalidWorld, e12_InvalidWorld, e13_InvalidWorld, ⟨_, _, _, _, _, _, _, _, _, _, _, _, _, _, _, e14_InvalidWorld, e15_InvalidWorld⟩⟩, EI_InvalidWorld := ⟨e16_InvalidWorld, e17_InvalidWorld, e18_InvalidWorld, e19_InvalidWorld, e20_InvalidWorld⟩, g_World := PySem.W.mg_of X G g_World, M_World := ⟨m1_World, a1, m2_World, m3_World⟩, K_World := ⟨m4_World, m5_World, m6_World, m7_World⟩, N_World_constants := f_World_constants, N_World_facts := f_World_facts, g_Signature := PySem.W.mg_of X G g_Signature, M_Signature := ⟨m1_Signature, a4, m2_Signature, m3_Signature⟩, K_Signature := ⟨m4_Signature, m5_Signature, m6_Signature, m7_Signature⟩, N_Signature_known := f_Signature_known, N_Signature_unknown := f_Signature_unknown, x_InvalidSignature_InvalidSignature := x_InvalidSignature_InvalidSignature, x_InvalidWorld_InvalidWorld := x_InvalidWorld_InvalidWorld, x_TooLarge_InvalidWorld := x_TooLarge_InvalidWorld, x_TooLarge_TooLarge := x_TooLarge_TooLarge, k_InvalidSignature_FewrulesError := k_InvalidSignature_FewrulesError, k_InvalidWorld_FewrulesError := k_InvalidWorld_FewrulesError, len := PySem.W.mg_none_of X G z_len, all := PySem.W.mg_none_of X G z_all, abs := PySem.W.mg_none_of X G z_abs, int := PySem.W.mg_none_of X G z_int, range := PySem.W.mg_none_of X G z_range, list := PySem.W.mg_none_of X G z_list, reversed := PySem.W.mg_none_of X G z_reversed, isinstance := PySem.W.mg_none_of X G z_isinstance, tuple := PySem.W.mg_none_of X G z_tuple, set := PySem.W.mg_none_of X G z_set, m_LETTERS := ⟨_, PySem.W.mg_of X G m_LETTERS, _, rfl⟩, m_MOST_FACTS := ⟨_, PySem.W.mg_of X G m_MOST_FACTS, _, rfl⟩ }
  have H0 := tab_own F0 (own "is_name" (by simp) _ (PySem.W.mg_of X G a0)) t0 u0
  have H2 := tab_own F2 (own "world_fault" (by simp) _ (PySem.W.mg_of X G a2)) t2 u2
  have H3 := tab_own F3 (own "is_about" (by simp) _ (PySem.W.mg_of X G a3)) t3 u3
  have H5 := tab_own F5 (own "signature_fault" (by simp) _ (PySem.W.mg_of X G a5)) t5 u5
  refine ⟨a.fd_law, [(c0, P0), (c2, P2), (c3, P3), (c5, P5)], spLaw K a, ?_, ?_, ?_, fun s v => .of_eq rfl, ?_, fun base _ _ hB => ?_⟩
  · exact fun p hp => by
      simp only [List.mem_cons, List.not_mem_nil, or_false] at hp
      rcases hp with rfl | rfl | rfl | rfl
      · exact H0
      · exact H2
      · exact H3
      · exact H5
  · exact fun p hp => by
      simp only [List.mem_cons, List.not_mem_nil, or_false] at hp
      rcases hp with rfl | rfl | rfl | rfl
      · exact n0
      · exact n2
      · exact n3
      · exact n5
  · exact fun p hp => by
      simp only [List.mem_cons, List.not_mem_nil, or_false] at hp
      rcases hp with rfl | rfl | rfl | rfl
      · exact PySem.W.codeHd_of_K X (hd_of t0 h0)
      · exact PySem.W.codeHd_of_K X (hd_of t2 h2)
      · exact PySem.W.codeHd_of_K X (hd_of t3 h3)
      · exact PySem.W.codeHd_of_K X (hd_of t5 h5)
  · exact fun H q ns hl hbits hP hS => ⟨q, ns, rfl, hS, by omega, ⟨tabG_nil (hP (c0, P0) (by simp)), tabG_nil (hP (c3, P3) (by simp)), tabG_nil (hP (c2, P2) (by simp)), tabG_nil (hP (c5, P5) (by simp))⟩, fun _ => rfl⟩
  · have B : TabT base mg a := { tab_is_name := tabB_of (hB (c0, P0) (by simp)),  tab_world_fault := tabB_of (hB (c2, P2) (by simp)),  tab_is_about := tabB_of (hB (c3, P3) (by simp)),  tab_signature_fault := tabB_of (hB (c5, P5) (by simp)) }
    have G_take := ok__law_take (P := l.prog) (w := w) T B
    have G_draws := ok__law_draws (P := l.prog) (w := w) T B
    have G_name := ok_is_name (P := l.prog) (w := w) T B
    have G_lname := ok__law_is_name (P := l.prog) (w := w) T B
    have G_about := ok_is_about (P := l.prog) (w := w) T B
    have G_wf := ok_world_fault T B G_name G_about
    have G_sf := ok_signature_fault T B G_name
    have G_sd := ok__law_signature_due T B G_lname
    have G_si := ok_Signature_init T B G_sf
    have G_st := ok__law_signature_told T B G_si
    have G_wi := ok_World_init T B G_wf
    have G_wt := ok__law_world_told T B G_wi
    have G_wd := ok__law_world_due T B G_lname
    have G_tup := ok__law_tuples (P := l.prog) (w := w) T B
    have G_con := ok__law_constants T B G_take
    have G_rel := ok__law_relations T B G_take
    have G_fac := ok__law_facts T B G_take G_tup
    exact ok_law T B G_draws G_take G_rel G_sd G_st G_con G_fac G_wd G_wt G_si G_wi
end K0
set_option Elab.async false
set_option linter.all false
set_option maxRecDepth 100000
open PySem PySem.W PyProof.Rows
set_option maxHeartbeats 0 in
theorem PySem.Challenge.cw_fewrules_k00_signatures_and_worlds_refus_holds : PySem.Challenge.rw_fewrules_k00_signatures_and_worlds_refus.Holds := by
  w_on; o_law; k_head; (case hw => w_witness2)
  k_fill
  refine Gx.walk_ofAll (l := PySem.Challenge.rw_fewrules_k00_signatures_and_worlds_refus) (n := 63) (k := 8) (x := "script") (CX := fun _ => L2.CX0) (recs := ["is_name", "world_fault", "is_about", "signature_fault"]) rfl (by decide) rfl ⟨rfl, by decide, by decide⟩ ?R (fun w h Y => PySem.W.kIn_of Y) ?F (fun _ _ _ _ _ h => h)
  case R => decide +kernel
  case F =>
    intro w mg fa h Y KX G hmg own
    refine' K0.end_mk KX G hmg own ?g_FewrulesError ?g_TooLarge ?g_InvalidSignature ?g_InvalidWorld ?g_World ?g_Signature ?a0 ?l0 ?c_0 ?k0 ?a1 ?l1 ?c_1 ?k1 ?a2 ?l2 ?c_2 ?k2 ?a3 ?l3 ?c_3 ?k3 ?a4 ?l4 ?c_4 ?k4 ?a5 ?l5 ?c_5 ?k5 ?a6 ?l6 ?c_6 ?k6 ?a7 ?l7 ?c_7 ?k7 ?a8 ?l8 ?c_8 ?k8 ?a9 ?l9 ?c_9 ?k9 ?a10 ?l10 ?c_10 ?k10 ?a11 ?l11 ?c_11 ?k11 ?a12 ?l12 ?c_12 ?k12 ?a13 ?l13 ?c_13 ?k13 ?a14 ?l14 ?c_14 ?k14 ?a15 ?l15 ?c_15 ?k15 ?a16 ?l16 ?c_16 ?k16 ?a17 ?l17 ?c_17 ?k17 ?t0 ?u0 ?n0 ?h0 ?t2 ?u2 ?n2 ?h2 ?t3 ?u3 ?n3 ?h3 ?t5 ?u5 ?n5 ?h5 ?z_len ?z_all ?z_abs ?z_int ?z_range ?z_list ?z_reversed ?z_isinstance ?z_tuple ?z_set ?m_LETTERS ?m_MOST_FACTS ?e1_TooLarge ?e2_TooLarge ?e3_TooLarge ?e4_TooLarge ?e5_TooLarge ?e6_TooLarge ?e7_TooLarge ?e8_TooLarge ?e9_TooLarge ?e10_TooLarge ?e11_TooLarge ?e12_TooLarge ?e13_TooLarge ?e14_TooLarge ?e15_TooLarge ?e16_TooLarge ?e17_TooLarge ?e18_TooLarge ?e19_TooLarge ?e20_TooLarge ?e1_InvalidSignature ?e2_InvalidSignature ?e3_InvalidSignature ?e4_InvalidSignature ?e5_InvalidSignature ?e6_InvalidSignature ?e7_InvalidSignature ?e8_InvalidSignature ?e9_InvalidSignature ?e10_InvalidSignature ?e11_InvalidSignature ?e12_InvalidSignature ?e13_InvalidSignature ?e14_InvalidSignature ?e15_InvalidSignature ?e16_InvalidSignature ?e17_InvalidSignature ?e18_InvalidSignature ?e19_InvalidSignature ?e20_InvalidSignature ?e1_InvalidWorld ?e2_InvalidWorld ?e3_InvalidWorld ?e4_InvalidWorld ?e5_InvalidWorld ?e6_InvalidWorld ?e7_InvalidWorld ?e8_InvalidWorld ?e9_InvalidWorld ?e10_InvalidWorld ?e11_InvalidWorld ?e12_InvalidWorld ?e13_InvalidWorld ?e14_InvalidWorld ?e15_InvalidWorld ?e16_InvalidWorld ?e17_InvalidWorld ?e18_InvalidWorld ?e19_InvalidWorld ?e20_InvalidWorld ?m1_World ?m2_World ?m3_World ?m4_World ?m5_World ?m6_World ?m7_World ?f_World_constants ?f_World_facts ?m1_Signature ?m2_Signature ?m3_Signature ?m4_Signature ?m5_Signature ?m6_Signature ?m7_Signature ?f_Signature_known ?f_Signature_unknown ?x_InvalidSignature_InvalidSignature ?x_InvalidWorld_InvalidWorld ?x_TooLarge_InvalidWorld ?x_TooLarge_TooLarge ?k_InvalidSignature_FewrulesError ?k_InvalidWorld_FewrulesError
    (case g_FewrulesError => k_is)
    (case g_TooLarge => k_is)
    (case g_InvalidSignature => k_is)
    (case g_InvalidWorld => k_is)
    (case g_World => k_is)
    (case g_Signature => k_is)
    (case a0 => k_is)
    (case l0 => k_is)
    (case c_0 => k_is)
    (case k0 => k_is)
    (case a1 => k_is)
    (case l1 => k_is)
    (case c_1 => k_is)
    (case k1 => k_is)
    (case a2 => k_is)
    (case l2 => k_is)
    (case c_2 => k_is)
    (case k2 => k_is)
    (case a3 => k_is)
    (case l3 => k_is)
    (case c_3 => k_is)
    (case k3 => k_is)
    (case a4 => k_is)
    (case l4 => k_is)
    (case c_4 => k_is)
    (case k4 => k_is)
    (case a5 => k_is)
    (case l5 => k_is)
    (case c_5 => k_is)
    (case k5 => k_is)
    (case a6 => k_is)
    (case l6 => k_is)
    (case c_6 => k_is)
    (case k6 => k_is)
    (case a7 => k_is)
    (case l7 => k_is)
    (case c_7 => k_is)
    (case k7 => k_is)
    (case a8 => k_is)
    (case l8 => k_is)
    (case c_8 => k_is)
    (case k8 => k_is)
    (case a9 => k_is)
    (case l9 => k_is)
    (case c_9 => k_is)
    (case k9 => k_is)
    (case a10 => k_is)
    (case l10 => k_is)
    (case c_10 => k_is)
    (case k10 => k_is)
    (case a11 => k_is)
    (case l11 => k_is)
    (case c_11 => k_is)
    (case k11 => k_is)
    (case a12 => k_is)
    (case l12 => k_is)
    (case c_12 => k_is)
    (case k12 => k_is)
    (case a13 => k_is)
    (case l13 => k_is)
    (case c_13 => k_is)
    (case k13 => k_is)
    (case a14 => k_is)
    (case l14 => k_is)
    (case c_14 => k_is)
    (case k14 => k_is)
    (case a15 => k_is)
    (case l15 => k_is)
    (case c_15 => k_is)
    (case k15 => k_is)
    (case a16 => k_is)
    (case l16 => k_is)
    (case c_16 => k_is)
    (case k16 => k_is)
    (case a17 => k_is)
    (case l17 => k_is)
    (case c_17 => k_is)
    (case k17 => k_is)
    (case t0 => k_is)
    (case u0 => rfl)
    (case n0 => kernel_rfl)
    (case h0 => rfl)
    (case t2 => k_is)
    (case u2 => rfl)
    (case n2 => kernel_rfl)
    (case h2 => rfl)
    (case t3 => k_is)
    (case u3 => rfl)
    (case n3 => kernel_rfl)
    (case h3 => rfl)
    (case t5 => k_is)
    (case u5 => rfl)
    (case n5 => kernel_rfl)
    (case h5 => rfl)
    (case z_len => k_is)
    (case z_all => k_is)
    (case z_abs => k_is)
    (case z_int => k_is)
    (case z_range => k_is)
    (case z_list => k_is)
    (case z_reversed => k_is)
    (case z_isinstance => k_is)
    (case z_tuple => k_is)
    (case z_set => k_is)
    (case m_LETTERS => k_is)
    (case m_MOST_FACTS => k_is)
    (case e1_TooLarge => k_is)
    (case e2_TooLarge => rfl)
    (case e3_TooLarge => k_is)
    (case e4_TooLarge => k_is)
    (case e5_TooLarge => k_is)
    (case e6_TooLarge => k_is)
    (case e7_TooLarge => k_is)
    (case e8_TooLarge => k_is)
    (case e9_TooLarge => k_is)
    (case e10_TooLarge => k_is)
    (case e11_TooLarge => k_is)
    (case e12_TooLarge => k_is)
    (case e13_TooLarge => kernel_rfl)
    (case e14_TooLarge => k_is)
    (case e15_TooLarge => k_is)
    (case e16_TooLarge => kernel_rfl)
    (case e17_TooLarge => k_is)
    (case e18_TooLarge => k_is)
    (case e19_TooLarge => k_is)
    (case e20_TooLarge => k_is)
    (case e1_InvalidSignature => k_is)
    (case e2_InvalidSignature => rfl)
    (case e3_InvalidSignature => k_is)
    (case e4_InvalidSignature => k_is)
    (case e5_InvalidSignature => k_is)
    (case e6_InvalidSignature => k_is)
    (case e7_InvalidSignature => k_is)
    (case e8_InvalidSignature => k_is)
    (case e9_InvalidSignature => k_is)
    (case e10_InvalidSignature => k_is)
    (case e11_InvalidSignature => k_is)
    (case e12_InvalidSignature => k_is)
    (case e13_InvalidSignature => kernel_rfl)
    (case e14_InvalidSignature => k_is)
    (case e15_InvalidSignature => k_is)
    (case e16_InvalidSignature => kernel_rfl)
    (case e17_InvalidSignature => k_is)
    (case e18_InvalidSignature => k_is)
    (case e19_InvalidSignature => k_is)
    (case e20_InvalidSignature => k_is)
    (case e1_InvalidWorld => k_is)
    (case e2_InvalidWorld => rfl)
    (case e3_InvalidWorld => k_is)
    (case e4_InvalidWorld => k_is)
    (case e5_InvalidWorld => k_is)
    (case e6_InvalidWorld => k_is)
    (case e7_InvalidWorld => k_is)
    (case e8_InvalidWorld => k_is)
    (case e9_InvalidWorld => k_is)
    (case e10_InvalidWorld => k_is)
    (case e11_InvalidWorld => k_is)
    (case e12_InvalidWorld => k_is)
    (case e13_InvalidWorld => kernel_rfl)
    (case e14_InvalidWorld => k_is)
    (case e15_InvalidWorld => k_is)
    (case e16_InvalidWorld => kernel_rfl)
    (case e17_InvalidWorld => k_is)
    (case e18_InvalidWorld => k_is)
    (case e19_InvalidWorld => k_is)
    (case e20_InvalidWorld => k_is)
    (case m1_World => k_is)
    (case m2_World => k_is)
    (case m3_World => k_is)
    (case m4_World => k_is)
    (case m5_World => k_is)
    (case m6_World => k_is)
    (case m7_World => k_is)
    (case f_World_constants => k_is)
    (case f_World_facts => k_is)
    (case m1_Signature => k_is)
    (case m2_Signature => k_is)
    (case m3_Signature => k_is)
    (case m4_Signature => k_is)
    (case m5_Signature => k_is)
    (case m6_Signature => k_is)
    (case m7_Signature => k_is)
    (case f_Signature_known => k_is)
    (case f_Signature_unknown => k_is)
    (case x_InvalidSignature_InvalidSignature => kernel_rfl)
    (case x_InvalidWorld_InvalidWorld => kernel_rfl)
    (case x_TooLarge_InvalidWorld => kernel_rfl)
    (case x_TooLarge_TooLarge => kernel_rfl)
    (case k_InvalidSignature_FewrulesError => kernel_rfl)
    (case k_InvalidWorld_FewrulesError => kernel_rfl)
