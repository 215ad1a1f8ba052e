import PyProof.Rows.All
import Wide.All
import OpenK.AllK
import Wide.FinOn
import PySem.Challenge.RW_fewrules_k06_words_names_and_atoms
import HandS.ForMost
import HandS.GenList
import HandS.AnyAll
import HandS.Rev
import HandS.Codes
import HandS.Conv
import HandS.StrMore
import HandS.IsInst
import HandS.Iter
import HandS.EndOwn
set_option Elab.async false
set_option linter.all false
set_option maxRecDepth 100000
set_option maxHeartbeats 2000000
namespace Gx
open PySem PySem.Spec PyProof.Rows L2 GenW

/-- a generator expression's scope: its own names, and the captured ones with their places in the def's names -/
structure GxS (sc : Scope) (N : List Str) (scope : Scope) (own caps : List Str) (cix : List Nat) : Prop where
  kind : scope.kind = .function
  co : scope.isCoroutine = false
  cell : ∀ y ∈ scope.names, y.2 ≠ .cell
  dot : scope.names.lookup (".0" : Str) = some NameKind.local
  nd : (own ++ caps).Nodup
  len : caps.length = cix.length
  at_ : ∀ (j : Nat) (x : Str), caps[j]? = some x → ∃ i, cix[j]? = some i ∧ N[i]? = some x
  capF : ∀ x ∈ caps, scope.names.lookup x = some .free
  free : ∀ y ∈ scope.names, y.2 = .free → sc.names.lookup y.1 = some .cell ∨ sc.names.lookup y.1 = some .free

def gxC (sc : Scope) (N : List Str) (scope : Scope) (own caps : List Str) (cix : List Nat) : Bool :=
  (match scope.kind with | .function => true | _ => false) && (scope.isCoroutine == false) && scope.names.all (fun y => match y.2 with | .cell => false | .free => (match sc.names.lookup y.1 with | some .cell => true | some .free => true | _ => false) | _ => true) &&
  (match scope.names.lookup (".0" : Str) with | some .local => true | _ => false) && decide (own ++ caps).Nodup && decide (caps.length = cix.length) && decide ((cix.map fun i => N[i]?) = caps.map some) &&
  caps.all (fun x => match scope.names.lookup x with | some .free => true | _ => false)
theorem gxs_by {sc : Scope} {N : List Str} {scope : Scope} {own caps : List Str} {cix : List Nat} (h : gxC sc N scope own caps cix = true) : GxS sc N scope own caps cix := by
  unfold gxC at h
  simp only [Bool.and_eq_true, List.all_eq_true, decide_eq_true_eq, beq_iff_eq] at h
  obtain ⟨⟨⟨⟨⟨⟨⟨h1, h2⟩, h3⟩, h4⟩, h5⟩, h6⟩, h7⟩, h8⟩ := h
  refine ⟨?_, h2, fun y hy e => ?_, ?_, h5, h6, fun j x e => ?_, fun x hx => ?_, fun y hy e => ?_⟩
  · split at h1
    · assumption
    · cases h1
  · have q := h3 y hy
    rw [e] at q
    cases q
  · split at h4
    · assumption
    · cases h4
  · have e2 : (cix.map fun i => N[i]?)[j]? = some (some x) := by rw [h7, List.getElem?_map, e]; rfl
    rw [List.getElem?_map] at e2
    cases q : cix[j]? with
    | none => rw [q] at e2; cases e2
    | some i => rw [q] at e2; exact ⟨i, rfl, Option.some.inj e2⟩
  · have q := h8 x hx
    split at q
    · assumption
    · cases q
  · have q := h3 y hy
    rw [e] at q
    simp only at q
    split at q
    · exact .inl (by assumption)
    · exact .inr (by assumption)
    · cases q
/-- the slots within: the own names without values, the captured ones -/
def gσ (own : List Str) (cix : List Nat) (σ : L2.St) : L2.St := List.replicate own.length none ++ cix.map fun i => (σ[i]?).getD none
/-- what the turn has not forgotten -/
def Wk (σ' σ2 : L2.St) : Prop := σ'.length = σ2.length ∧ ∀ (i : Nat) v, σ'[i]? = some (some v) → σ2[i]? = some (some v)

/-- the context within: s, H: the state ahead of the frame's making -/
abbrev gxCx (X : Cx) (A : Around) (N : List Str) (s : Shared) (H : Hp) (genv : Env) (fp : List Addr) (pn : List (Addr × Obj)) : Cx :=
  { X with A := A, N := N, s_0 := s, H_0 := H, env := genv, outer := X.stack, stack := genv :: X.stack, ex := fp, fn := fun _ => false, calm := true, pn := pn, xe := fun _ _ => False }

section
variable {X : Cx} {pins : List (Addr × Obj)} {σ : L2.St} {H : Hp} {s : Shared}
theorem gx_start {scope : Scope} {own caps : List Str} {cix : List Nat} {fp : List Addr} {A : Around} {code : Value} {a : Addr} {go : Obj} {s5 : Shared} (I : Inv X pins σ H s) (S : GxS X.env.scope X.N scope own caps cix)
    (hfp : ∀ b ∈ fp, FpOk X pins H b ∧ b < s.heap.objs.size) (hA : A.handled = none) (hfr : A.frames = some (genEnv scope (cloFrom X.env.cells scope.names []) s.heap.objs.size code builtinsNs X.env :: X.stack))
    (k5 : ∀ b o, s.heap.get? b = some o → s5.heap.get? b = some o) (hn : ∃ m, s5.heap.Ns s.heap.objs.size m) (os5 : s5.os = s.os) (b5 : AllBare s5.gens)
    (ha : s.heap.objs.size < a) (hgo : s5.heap.get? a = some go) (hgd : ∀ v, go.data ≠ .cell v) :
    Inv (gxCx X A (own ++ caps) s H (genEnv scope (cloFrom X.env.cells scope.names []) s.heap.objs.size code builtinsNs X.env) fp [(a, go)]) [] (gσ own cix σ) H s5 := by
  generalize hge : genEnv scope (cloFrom X.env.cells scope.names []) s.heap.objs.size code builtinsNs X.env = genv at hfr
  have gL : genv.locals = s.heap.objs.size := by rw [← hge]; rfl
  have gC : genv.cells = cloFrom X.env.cells scope.names [] := by rw [← hge]; rfl
  have gS : genv.scope = scope := by rw [← hge]; rfl
  have gF : genv.frame = some genv.locals := by rw [← hge]; rfl
  have hfree : ∀ y ∈ scope.names, y.2 = .free → ∃ c, X.env.cells.lookup y.1 = some c := fun y hy e => by
    rcases S.free y hy e with k | k
    · exact I.ok.has _ (.inl k)
    · exact I.ok.has _ (.inr k)
  have cm : ∀ {y c}, genv.cells.lookup y = some c → X.env.cells.lookup y = some c ∧ c < s.heap.objs.size := fun {y c} e => by
    rw [gC] at e
    rcases cloFrom_mem (PySem.mem_of_lookup e) with hm | ⟨h1, rfl⟩
    · cases hm
    · obtain ⟨c, hc⟩ := hfree _ h1 rfl
      rw [hc]
      obtain ⟨w, z⟩ := I.cell _ _ hc
      exact ⟨rfl, z.lt⟩
  have look : ∀ {y}, scope.names.lookup y = some .free → ∃ c, genv.cells.lookup y = some c := fun {y} hl => by
    obtain ⟨c', e'⟩ := mem_lookup (cloFrom_has (cells := X.env.cells) (acc := []) (PySem.mem_of_lookup hl))
    exact ⟨c', by rw [gC]; exact e'⟩
  have okY : (gxCx X A (own ++ caps) s H genv fp [(a, go)]).Ok := by
    refine ⟨I.ok.mod, by show genv.scope.kind = _; rw [gS]; exact S.kind, by show genv.globals = _; rw [← hge]; exact I.ok.glob, by show genv.builtins = _; rw [← hge]; rfl, by show s.heap.objs.size ≤ genv.locals; rw [gL]; exact Nat.le_refl _,
      fun y z c e1 e2 => I.ok.inj y z c (cm e1).1 (cm e2).1, fun y hy => ?_, fun y c z _ => absurd z Bool.false_ne_true, fun _ => hA, hfr, .inr ⟨rfl, gF⟩, fun b hb => ⟨?_, fun y c e z => ?_⟩, I.bs, Nat.le_trans I.ok.bsz I.sz, fun b o e hb => ?_, fun b hb z => ?_, I.stack, I.stkFree⟩
    · have key : ∀ k, genv.kindOf y = some k → (k = .cell ∨ k = .free) → ∃ c, genv.cells.lookup y = some c := fun k hk hk' => by
        unfold Env.kindOf at hk
        rw [gS] at hk
        rcases hk' with rfl | rfl
        · exact absurd rfl (S.cell _ (PySem.mem_of_lookup hk))
        · exact look hk
      rcases hy with hy | hy
      · exact key _ hy (.inl rfl)
      · exact key _ hy (.inr rfl)
    · show b ≠ genv.locals
      rw [gL]; exact Nat.ne_of_lt (hfp b hb).2
    · exact (hfp b hb).1.2.2.2.2.1 y c (cm e).1 z
    · rcases (hfp b hb).1.2.2.2.1 with z | z
      · exact I.ok.noex b o e z
      · exact absurd (Nat.lt_of_lt_of_le (Heap.lt_size e) (Nat.le_trans I.ok.bsz z)) (Nat.lt_irrefl _)
    · rcases List.mem_cons.mp (I.stkSub b z) with z | z
      · exact (hfp b hb).1.2.1 z
      · exact (hfp b hb).1.2.2.1 z
  have young : ∀ b, s.heap.objs.size ≤ b → H b = none ∧ b ∉ frs X.stack := fun b hb => by
    refine ⟨I.hok.fresh hb, fun z => ?_⟩
    rcases List.mem_cons.mp (I.stkSub b z) with z | z
    · have h1 := I.lt
      rw [← z] at h1
      exact Nat.lt_irrefl _ (Nat.lt_of_lt_of_le h1 hb)
    · exact I.nofs hb z
  refine ⟨okY, os5, b5, Un.kept k5, ?_, fun y c e => ?_, ?_, fun y c e => I.freeC y c (cm e).1, fun p hp => ?_, I.hok.kept k5, ?_⟩
  · obtain ⟨m, hm⟩ := hn
    refine ⟨m, by show s5.heap.Ns genv.locals m; rw [gL]; exact hm, fun i y v e1 e2 e3 => ?_⟩
    have e1 : (own ++ caps)[i]? = some y := e1
    have hi : own.length ≤ i := by
      by_cases hlt : i < own.length
      · unfold gσ at e2
        rw [List.getElem?_append_left (by simpa using hlt), List.getElem?_replicate, if_pos hlt] at e2
        cases e2
      · omega
    rw [List.getElem?_append_right hi] at e1
    unfold gσ at e2
    rw [List.getElem?_append_right (by simpa using hi), List.length_replicate] at e2
    obtain ⟨ix, h1, h2⟩ := S.at_ _ _ e1
    rw [List.getElem?_map, h1] at e2
    have e4 : σ[ix]? = some (some v) := by
      have e5 : (σ[ix]?).getD none = some v := Option.some.inj e2
      cases q : σ[ix]? with
      | none => rw [q] at e5; cases e5
      | some u => rw [q] at e5; exact congrArg some e5
    have hcap := S.capF y (List.mem_of_getElem? e1)
    obtain ⟨mX, _, hl⟩ := I.loc
    have hfr2 := S.free _ (PySem.mem_of_lookup hcap) rfl
    have hvis : Vis X.env.scope y := hfr2.elim (fun k => .inr (.inl k)) fun k => .inr (.inr k)
    obtain ⟨u, r, q⟩ := hl ix y v h2 e4 hvis
    refine ⟨u, r, .inr ⟨.inr (by show genv.scope.names.lookup y = _; rw [gS]; exact hcap), ?_⟩⟩
    obtain ⟨c, hc⟩ := look hcap
    rcases q with ⟨k, _⟩ | ⟨_, c', e', z⟩
    · have k : X.env.scope.names.lookup y = some .local := k
      rcases hfr2 with k' | k' <;> rw [show X.env.scope.names.lookup y = _ from k'] at k <;> cases k
    · rw [(cm hc).1] at e'; cases e'
      exact ⟨c, hc, z.keeps k5⟩
  · obtain ⟨w, z⟩ := I.cell y c (cm e).1
    exact ⟨w, z.keeps k5⟩
  · show H genv.locals = none
    rw [gL]; exact I.hok.fresh (Nat.le_refl _)
  · have hp' : p ∈ [(a, go)] := by simpa using hp
    rw [List.mem_singleton.mp hp']
    obtain ⟨y1, y2⟩ := young a (Nat.le_of_lt ha)
    exact ⟨hgo, y1, by show a ≠ genv.locals; rw [gL]; exact Nat.ne_of_gt ha, y2, hgd⟩
  · unfold gσ
    show _ = (own ++ caps).length
    rw [List.length_append, List.length_append, List.length_replicate, List.length_map, S.len]
end

theorem over_cs {A : Around} {elt : Expr} {gs : List Comprehension} {scope : Scope} {pos : Pos} {it acc : Value} {env : Env} : A.over (.compStart (.GeneratorExp elt gs scope pos) 0 it acc env) [] = A.deeper env := by
  first
    | rfl
    | (obtain ⟨hd, d, fr, gs, u⟩ := A; simp [Around.over, Around.deeper, marksOver, frameCount, unitsOf, envsOf, guardsOf, pushEnvs, pushGuards, Code.envs, Code.env?, Code.isFrame, Code.guards, Code.isGuard, Code.weight, Code.frames, Code.isCreation, Code.isCaller, Code.cUnits])
theorem over_cl {A : Around} {elt : Expr} {gs : List Comprehension} {scope : Scope} {pos : Pos} {it acc : Value} {env : Env} : A.over (.compLoop (.GeneratorExp elt gs scope pos) 0 it acc env) [] = A.deeper env := by
  first
    | rfl
    | (obtain ⟨hd, d, fr, gs, u⟩ := A; simp [Around.over, Around.deeper, marksOver, frameCount, unitsOf, envsOf, guardsOf, pushEnvs, pushGuards, Code.envs, Code.env?, Code.isFrame, Code.guards, Code.isGuard, Code.weight, Code.frames, Code.isCreation, Code.isCaller, Code.cUnits])

/-! ### the protocol: q, the value that ends the search -/
section
variable {Y : Cx} {σ' : L2.St}
def YGx (Y : Cx) (σ' : L2.St) (q : Bool) (Q : VK) : Protocol := fun n s₀ v s kap =>
  ∃ c H, v = .bool c ∧ Inv Y [] σ' H s ∧ (c = q → Q (.bl q) H) ∧ (c ≠ q → ∀ s', s'.heap = s.heap → s'.os = s.os → AllBare s'.gens → kap (.send .none) s')
def PGx (Y : Cx) (σ' : L2.St) (q : Bool) (Q : VK) : Nat → Shared → Shared → Prop := fun n s₀ s => ∃ H, Inv Y [] σ' H s ∧ Q (.bl (!q)) H
abbrev RGx (Y : Cx) (σ' : L2.St) (q : Bool) (Q : VK) : GenEnd := fun n s₀ r s => r = .ok .next ∧ PGx Y σ' q Q n s₀ s

/-- the same heap, other generators -/
theorem inv_gens {H : Hp} {s s' : Shared} (I : Inv Y [] σ' H s) (k : ∀ b o, s.heap.get? b = some o → s'.heap.get? b = some o) (ho : s'.os = s.os) (hb : AllBare s'.gens) : Inv Y [] σ' H s' :=
  I.call' (ch := []) ho (Un.kept k) (I.hok.kept k) hb fun b z => absurd z (by simp)

/-- one turn's reading: W by the turn and a measure -/
def gxW (J : It) (g : TG) (tt : TT) (te : TE) (σ' : L2.St) (q : Bool) (Q : VK) (W : Nat → Nat → Hp → Prop) : Prop := ∀ i m H, W i m H →
  (J.stop i H ∧ Q (.bl (!q)) H) ∨ (J.go i H ∧ ∃ Nx : Hp → Prop, (∀ H', Nx H' → ∃ m', m' < m ∧ W (i + 1) m' H') ∧ ∀ x H', J.yld i H x H' → g x σ' H' fun σ2 H2 => Wk σ' σ2 ∧ tt σ2 H2 fun b H3 =>
    if b = true then te σ2 H3 fun y H4 => ∃ c, y = .bl c ∧ (if c = q then Q (.bl q) H4 else Nx H4) else Nx H3)

theorem seg_gx {elt tg iter : Expr} {ifs : List Expr} {scope : Scope} {pos : Pos} {A : Around} {it : Addr} {fp : List Addr} {tn : Nat → Heap → Prop} {J : It} {g : TG} {tt : TT} {te : TE} {q : Bool} {Q : VK} {W : Nat → Nat → Hp → Prop}
    (hYA : Y.A = A.deeper Y.env) (hex : Y.ex = fp) (hpn : ∀ p ∈ Y.pn, p.1 ∉ fp) (hcalm : Y.calm = true) (hxe : Y.xe = fun _ _ => False) (hco : Y.env.scope.isCoroutine = false)
    (T : Turn Y.prog Y.w Y.K tg J fp it tn) (hg : PG Y tg g) (ht : PTs Y ifs tt) (he : PE Y elt te) (hW : gxW J g tt te σ' q Q W) :
    ∀ (m n i : Nat) (s₀ s : Shared) (H : Hp), m < n → Inv Y [] σ' H s → tn i s.heap → (∀ b ∈ fp, H b = none) → W i m H →
      Seg (model Y.prog Y.w) A (RGx Y σ' q Q) (YGx Y σ' q Q) n s₀ (.compLoop (.GeneratorExp elt [⟨tg, iter, ifs, 0⟩] scope pos) 0 (.ref it) .none Y.env)
        ((model Y.prog Y.w).den (.compLoop (.GeneratorExp elt [⟨tg, iter, ifs, 0⟩] scope pos) 0 (.ref it) .none Y.env)) [] s := by
  have stat : ∀ {σ2 : L2.St} {H' : Hp} {s' : Shared}, Inv Y [] σ2 H' s' → (∀ b ∈ fp, H' b = none) → ∀ b ∈ fp, FpOk Y [] H' b := fun {σ2 H' s'} I' hn b hb =>
    ⟨hn b hb, (I'.ok.exf b (by rw [hex]; exact hb)).1, I'.ok.exfs b (by rw [hex]; exact hb), .inl (by rw [hex]; exact hb), fun x c e => (I'.ok.exf b (by rw [hex]; exact hb)).2 x c e, fun p hp z => hpn p (by simpa using hp) (by rw [z]; exact hb)⟩
  intro m
  induction m using Nat.strongRecOn with
  | ind m ih =>
    intro n i s₀ s H hmn I st hn w
    show Seg _ A _ _ _ s₀ _ ((compTurn (.GeneratorExp elt [⟨tg, iter, ifs, 0⟩] scope pos) 0 (.ref it) .none Y.env).onRaise (leaving Y.env)) [] s
    rw [compTurn_gen, Sem.onRaise_eq_wrap]
    refine seg_bind_wrap (wpAny_standAt ?_)
    rcases hW i m H w with ⟨stop, qq⟩ | ⟨go, Nx, hNx, step⟩
    · refine seg_bind_wrap ?_
      rw [over_cl, ← hYA]
      refine wpAny_mono (T.done Y rfl rfl rfl hcalm i [] s _ H (fun _ _ => False) I (stat I hn) st stop) (fun r s1 ⟨hr, I1⟩ => ?_) fun _ _ z => False.elim z
      subst hr
      exact seg_end (.ok .next) ⟨rfl, H, I1, qq⟩
    · refine seg_bind_wrap ?_
      rw [over_cl, ← hYA]
      refine wpAny_mono (T.item Y rfl rfl rfl hcalm i [] s _ H (fun _ _ => False) I (stat I hn) st go) (fun r s1 ⟨u, hr, h1⟩ => ?_) fun _ _ z => False.elim z
      subst hr
      refine seg_bind_wrap ?_
      rw [over_cl, ← hYA]
      refine wpAny_mono h1 (fun _ s2 ⟨x, H2, I2, r2, y2, st2, n2⟩ => ?_) fun _ _ z => False.elim z
      have I2' := I2.pinned (stat I2 n2) (T.obj _ _ st2)
      refine seg_bind_wrap ?_
      rw [over_cl, ← hYA]
      have hgr := hg.run _ s2 _ H2 x u _ I2' r2 (step x H2 y2)
      rw [hxe] at hgr
      refine wpAny_mono hgr (fun _ s3 ⟨σ3, H3, I3, hw3, q3⟩ => ?_) fun _ _ z => False.elim z
      refine seg_bind_wrap ?_
      rw [over_cl, ← hYA]
      have htr := ht.run _ s3 σ3 H3 _ I3 q3
      rw [hxe] at htr
      refine wpAny_mono htr (fun b s4 ⟨H4, I4, q4⟩ => ?_) fun _ _ z => False.elim z
      have back : ∀ {s' : Shared} {H' : Hp}, Inv Y ([] ++ pinsAt fp s2.heap) σ3 H' s' → Inv Y [] σ' H' s' ∧ tn (i + 1) s'.heap ∧ ∀ b ∈ fp, H' b = none := fun {s' H'} I' => by
        have pin' : ∀ b ∈ fp, ∀ o, s2.heap.get? b = some o → s'.heap.get? b = some o ∧ H' b = none := fun b hb o e =>
          let z := I'.pin (b, o) (List.mem_append_right _ (List.mem_append_right _ (mem_pinsAt hb e)))
          ⟨z.1, z.2.1⟩
        refine ⟨(I'.unpinned (pins := [])).weak hw3.1 hw3.2, T.keep _ _ _ st2 fun b hb o e => (pin' b hb o e).1, fun b hb => ?_⟩
        obtain ⟨o, e, _⟩ := T.obj _ _ st2 b hb
        exact (pin' b hb o e).2
      cases b with
      | false =>
        simp only [Bool.false_eq_true, if_false] at q4 ⊢
        obtain ⟨m', hm, w'⟩ := hNx H4 q4
        obtain ⟨J4, st4, n4⟩ := back I4
        exact seg_again rfl (ih m' hm n (i + 1) s₀ s4 H4 (by omega) J4 st4 n4 w')
      | true =>
        simp only [if_true] at q4 ⊢
        have hy : ∀ v, yieldOut Y.env v = yieldValue v := fun v => by simp only [yieldOut, hco, Bool.false_eq_true, if_false]
        simp only [hy]
        rw [Sem.bind_eq_wrap', Sem.bind_eq_wrap', Sem.wrap_wrap, Sem.wrap_wrap]
        refine seg_wrap ?_
        rw [over_cl, ← hYA]
        have her := he.run _ s4 σ3 H4 _ I4 q4
        rw [hxe] at her
        refine wpAny_mono her (fun v s5 ⟨y, H5, I5, r5, c, ec, q5⟩ => ?_) fun _ _ z => False.elim z
        subst ec
        obtain rfl : v = Value.bool c := r5
        obtain ⟨J5, st5, n5⟩ := back I5
        obtain ⟨n, rfl⟩ : ∃ n', n = n' + 1 := by
          exact ⟨n - 1, by omega⟩
        refine seg_at (seg_yield rfl rfl rfl ⟨c, H5, rfl, J5, fun e => ?_, fun e s' hh ho hb => ?_⟩)
        · rw [if_pos e] at q5
          exact q5
        · rw [if_neg e] at q5
          obtain ⟨m', hm, w'⟩ := hNx H5 q5
          exact seg_again rfl (ih m' hm n (i + 1) s' s' H5 (by omega) (inv_gens J5 (fun b o z => by rw [hh]; exact z) ho hb) (by rw [hh]; exact st5) n5 w')

theorem seg_gxS {elt tg iter : Expr} {ifs : List Expr} {scope : Scope} {pos : Pos} {A : Around} {it : Addr} {fp : List Addr} {tn : Nat → Heap → Prop} {J : It} {g : TG} {tt : TT} {te : TE} {q : Bool} {Q : VK} {W : Nat → Nat → Hp → Prop}
    (hYA : Y.A = A.deeper Y.env) (hex : Y.ex = fp) (hpn : ∀ p ∈ Y.pn, p.1 ∉ fp) (hcalm : Y.calm = true) (hxe : Y.xe = fun _ _ => False) (hco : Y.env.scope.isCoroutine = false)
    (T : Turn Y.prog Y.w Y.K tg J fp it tn) (hg : PG Y tg g) (ht : PTs Y ifs tt) (he : PE Y elt te) (hW : gxW J g tt te σ' q Q W)
    {m n : Nat} {s₀ s : Shared} {H : Hp} (hmn : m < n) (I : Inv Y [] σ' H s) (st : tn 0 s.heap) (hn : ∀ b ∈ fp, H b = none) (w : W 0 m H) :
      Seg (model Y.prog Y.w) A (RGx Y σ' q Q) (YGx Y σ' q Q) n s₀ (.compStart (.GeneratorExp elt [⟨tg, iter, ifs, 0⟩] scope pos) 0 (.ref it) .none Y.env)
        ((model Y.prog Y.w).den (.compStart (.GeneratorExp elt [⟨tg, iter, ifs, 0⟩] scope pos) 0 (.ref it) .none Y.env)) [] s := by
  have loop := seg_gx (elt := elt) (iter := iter) (ifs := ifs) (scope := scope) (pos := pos) hYA hex hpn hcalm hxe hco T hg ht he hW m n 0 s₀ s H hmn I st hn w
  show Seg _ A _ _ _ s₀ _ ((compStart (.GeneratorExp elt [⟨tg, iter, ifs, 0⟩] scope pos) 0 (.ref it) .none Y.env).onRaise (leaving Y.env)) [] s
  unfold compStart
  rw [Sem.onRaise_eq_wrap]
  show Seg _ A _ _ _ s₀ _ ((ask >>= _).wrap _ _ _ _) [] s
  refine seg_bind_wrap (wpAny_askSetting ?_)
  split
  · exact seg_again rfl loop
  · first
      | exact seg_bind_wrap (wpAny_rule (seg_bind_wrap (wpAny_standAt (seg_bind_wrap (T.self _ 0 s _ _ st (seg_again rfl loop))))))
      | (refine seg_bind_wrap (wpAny_rule ?_); show Seg _ A _ _ _ s₀ _ ((standAt iter.pos >>= _).wrap _ _ _ _) [] s; exact seg_bind_wrap (wpAny_standAt (seg_bind_wrap (T.self _ 0 s _ _ st (seg_again rfl loop)))))

/-! ### the consumers -/
theorem inv_set {H : Hp} {s : Shared} {g : Nat} {x : GenState} (I : Inv Y [] σ' H s) (hx : x.bare = true) : Inv Y [] σ' H (s.setGen g x) :=
  inv_gens I (fun _ _ z => z) rfl (allBare_setGen I.bare hx)
theorem pin_gen {H : Hp} {s : Shared} {a : Addr} {go : Obj} {g : Nat} (hp : Y.pn = [(a, go)]) (hg : ∀ h : Heap, h.get? a = some go → h.IsGen a g) (I : Inv Y [] σ' H s) : s.heap.IsGen a g :=
  hg _ (I.pin (a, go) (by rw [hp]; exact List.mem_append_left _ (List.mem_singleton.mpr rfl))).1

/-- what the end of the consumer's loop knows -/
def GxEnd (Y : Cx) (σ' : L2.St) (Q : VK) (r : Result) (s' : Shared) : Prop := ∃ b H, r = .ok (.ret (.bool b)) ∧ Inv Y [] σ' H s' ∧ Q (.bl b) H

theorem gx_next {A : Around} {a : Addr} {go : Obj} {g : Nat} {q : Bool} {Q : VK} {n : Nat} {s : Shared} {H : Hp} {Z : Option Value → Shared → Prop} {E : Value → Shared → Prop} (hp : Y.pn = [(a, go)]) (hg : ∀ h : Heap, h.get? a = some go → h.IsGen a g) (hh : A.handled = none) (hd : A.depth < recursionLimit)
    (I : Inv Y [] σ' H s) (h : ∃ gs, s.gens[g]? = some gs ∧ gs.Goes (model Y.prog Y.w) A.in1 (RGx Y σ' q Q) (YGx Y σ' q Q) n (.send .none) (s.setGen g .running))
    (hN : ∀ s' H', Inv Y [] σ' H' s' → Q (.bl (!q)) H' → Z none s')
    (hQ : ∀ s' H', Inv Y [] σ' H' s' → Q (.bl q) H' → Z (some (.bool q)) s')
    (hM : ∀ s' H' n', n = n' + 1 → Inv Y [] σ' H' s' → (∃ gs, s'.gens[g]? = some gs ∧ gs.Goes (model Y.prog Y.w) A.in1 (RGx Y σ' q Q) (YGx Y σ' q Q) n' (.send .none) (s'.setGen g .running)) → Z (some (.bool (!q))) s') :
    wpAny (model Y.prog Y.w) A (pyNext (.ref a)) Z E s := by
  obtain ⟨gs, hgs, hgo⟩ := h
  have hgl : g < s.gens.size := (Array.getElem?_eq_some_iff.mp hgs).1
  refine wpAny_gsz (n := g + 1) hgl (wpAny_pyNext_genexpQ (A := A) (P := PGx Y σ' q Q) hh I.nolimit hd (pin_gen hp hg I) hgs hgo (fun v s₁ gs' hb hv => ?_) (fun s₁ hP h' hk => ?_))
  · intro hsz
    obtain ⟨c, H1, rfl, I1, h1, h2⟩ := hv
    have I2 : Inv Y [] σ' H1 (s₁.setGen g gs') := inv_set I1 hb
    by_cases hc : c = q
    · subst hc
      exact hQ _ H1 I2 (h1 rfl)
    · have ec : c = !q := by cases c <;> cases q <;> simp_all
      subst ec
      have kap := h2 hc ((s₁.setGen g gs').setGen g .running) rfl rfl (allBare_setGen (allBare_setGen I1.bare hb) rfl)
      cases n with
      | zero => exact False.elim kap
      | succ n =>
        refine hM _ H1 n rfl I2 ⟨gs', setGen_at ?_, kap⟩
        have q := hsz
        rw [setGen_size] at q
        exact q
  · intro _
    obtain ⟨H1, I1, q1⟩ := hP
    refine hN _ H1 (inv_gens I1 ?_ rfl (allBare_setGen I1.bare rfl)) q1
    exact fun b o z => hk b o z

theorem all_gx {A : Around} {a : Addr} {go : Obj} {g : Nat} {Q : VK} (hp : Y.pn = [(a, go)]) (hg : ∀ h : Heap, h.get? a = some go → h.IsGen a g) (hh : A.handled = none) (hd : A.depth < recursionLimit) :
    ∀ (n : Nat) (s : Shared) (H : Hp), Inv Y [] σ' H s → (∃ gs, s.gens[g]? = some gs ∧ gs.Goes (model Y.prog Y.w) A.in1.in1 (RGx Y σ' false Q) (YGx Y σ' false Q) n (.send .none) (s.setGen g .running)) →
      codeAny (model Y.prog Y.w) A (.builtin "all.loop" ⟨[.ref a], []⟩) (GxEnd Y σ' Q) s := by
  intro n
  induction n with
  | zero =>
    intro s H I h
    refine codeAny_builtin F.entry_all_loop ?_
    rw [Around.under_plainId F.plain_all_loop _]
    show wpAny _ A.in1 (pyNext (.ref a) >>= _) _ _ s
    refine wpAny_bind (gx_next (A := A.in1) hp hg hh hd I h (fun s' H' I' q' => ?_) (fun s' H' I' q' => ?_) fun s' H' n' e _ _ => by omega)
    · exact wpAny_bind (wpAny_rule (wpAny_pure ⟨true, H', rfl, I', q'⟩))
    · refine wpAny_bind (wpAny_holding (wpAny_truthy_bool ?_))
      refine wpAny_bind (wpAny_letGo ?_)
      simp only [Bool.false_eq_true, if_false]
      exact wpAny_bind (wpAny_rule (wpAny_pure ⟨false, H', rfl, I', q'⟩))
  | succ n ih =>
    intro s H I h
    refine codeAny_builtin F.entry_all_loop ?_
    rw [Around.under_plainId F.plain_all_loop _]
    show wpAny _ A.in1 (pyNext (.ref a) >>= _) _ _ s
    refine wpAny_bind (gx_next (A := A.in1) hp hg hh hd I h (fun s' H' I' q' => ?_) (fun s' H' I' q' => ?_) fun s' H' n' e I' h' => ?_)
    · exact wpAny_bind (wpAny_rule (wpAny_pure ⟨true, H', rfl, I', q'⟩))
    · refine wpAny_bind (wpAny_holding (wpAny_truthy_bool ?_))
      refine wpAny_bind (wpAny_letGo ?_)
      simp only [Bool.false_eq_true, if_false]
      exact wpAny_bind (wpAny_rule (wpAny_pure ⟨false, H', rfl, I', q'⟩))
    · obtain rfl : n = n' := by omega
      refine wpAny_bind (wpAny_holding (wpAny_truthy_bool ?_))
      refine wpAny_bind (wpAny_letGo ?_)
      simp only [Bool.not_false, if_true]
      exact wpAny_pure ⟨plainId_quiet F.plain_all_loop _, ih s' H' I' h'⟩
theorem any_gx {A : Around} {a : Addr} {go : Obj} {g : Nat} {Q : VK} (hp : Y.pn = [(a, go)]) (hg : ∀ h : Heap, h.get? a = some go → h.IsGen a g) (hh : A.handled = none) (hd : A.depth < recursionLimit) :
    ∀ (n : Nat) (s : Shared) (H : Hp), Inv Y [] σ' H s → (∃ gs, s.gens[g]? = some gs ∧ gs.Goes (model Y.prog Y.w) A.in1.in1 (RGx Y σ' true Q) (YGx Y σ' true Q) n (.send .none) (s.setGen g .running)) →
      codeAny (model Y.prog Y.w) A (.builtin "any.loop" ⟨[.ref a], []⟩) (GxEnd Y σ' Q) s := by
  intro n
  induction n with
  | zero =>
    intro s H I h
    refine codeAny_builtin F.entry_any_loop ?_
    rw [Around.under_plainId F.plain_any_loop _]
    show wpAny _ A.in1 (pyNext (.ref a) >>= _) _ _ s
    refine wpAny_bind (gx_next (A := A.in1) hp hg hh hd I h (fun s' H' I' q' => ?_) (fun s' H' I' q' => ?_) fun s' H' n' e _ _ => by omega)
    · exact wpAny_bind (wpAny_rule (wpAny_pure ⟨false, H', rfl, I', q'⟩))
    · refine wpAny_bind (wpAny_holding (wpAny_truthy_bool ?_))
      refine wpAny_bind (wpAny_letGo ?_)
      simp only [if_true]
      exact wpAny_bind (wpAny_rule (wpAny_pure ⟨true, H', rfl, I', q'⟩))
  | succ n ih =>
    intro s H I h
    refine codeAny_builtin F.entry_any_loop ?_
    rw [Around.under_plainId F.plain_any_loop _]
    show wpAny _ A.in1 (pyNext (.ref a) >>= _) _ _ s
    refine wpAny_bind (gx_next (A := A.in1) hp hg hh hd I h (fun s' H' I' q' => ?_) (fun s' H' I' q' => ?_) fun s' H' n' e I' h' => ?_)
    · exact wpAny_bind (wpAny_rule (wpAny_pure ⟨false, H', rfl, I', q'⟩))
    · refine wpAny_bind (wpAny_holding (wpAny_truthy_bool ?_))
      refine wpAny_bind (wpAny_letGo ?_)
      simp only [if_true]
      exact wpAny_bind (wpAny_rule (wpAny_pure ⟨true, H', rfl, I', q'⟩))
    · obtain rfl : n = n' := by omega
      refine wpAny_bind (wpAny_holding (wpAny_truthy_bool ?_))
      refine wpAny_bind (wpAny_letGo ?_)
      simp only [Bool.not_true, Bool.false_eq_true, if_false]
      exact wpAny_pure ⟨plainId_quiet F.plain_any_loop _, ih s' H' I' h'⟩
end
end Gx
set_option Elab.async false
set_option linter.all false
set_option maxRecDepth 100000
set_option maxHeartbeats 2000000
namespace Gx
open PySem PySem.Spec PyProof.Rows L2 GenW

/-- all(..), any(..) of a generator expression; q: the value that ends the search; P: the table of the def's code object -/
def tGx (P : Addr) (wi : TI) (g : TG) (tt : TT) (te : TE) (own : List Str) (cix : List Nat) (q : Bool) : TE := fun σ H Q => wi σ H fun J H1 => GxR.TabG H1 P ∧ ∀ H2, GxR.Tabbed P H1 H2 →
  ∃ (W : Nat → Nat → Hp → Prop) (m : Nat), W 0 m H2 ∧ gxW J g tt te (gσ own cix σ) q Q W
/-- the context within, as the frame is made -/
abbrev gxAt (X : Cx) (own caps : List Str) (scope : Scope) (A : Around) (s : Shared) (H : Hp) (C : Addr) (cl : List (Str × Addr)) (code : Value) (bi : Addr) (fp : List Addr) (pn : List (Addr × Obj)) : Cx :=
  gxCx X A (own ++ caps) s H (genEnv scope cl C code bi X.env) fp pn

theorem boot_all : bootBuiltins "all" = some (.builtin "all") := by decide +kernel
theorem boot_any : bootBuiltins "any" = some (.builtin "any") := by decide +kernel
section
variable {X : Cx} {pins : List (Addr × Obj)} {σ : L2.St} {H : Hp} {s : Shared}
theorem gx_make {c P : Addr} {elt tg iter : Expr} {ifs : List Expr} {gpos : Pos} {scope : Scope} {own caps : List Str} {cix : List Nat} {wi : TI} {g : TG} {tt : TT} {te : TE} {q : Bool} {k : Nat} {Q : VK} {Q' : Value → Shared → Prop}
    (hr : Room (k + 1) X.A) (TB : GxR.TabB X.base X.mg c P) (hcode : X.env.code = .ref c) (S : GxS X.env.scope X.N scope own caps cix) (hi : PI X tg iter wi)
    (hg : ∀ A s H C cl code bi fp pn, Room k A → PG (gxAt X own caps scope A s H C cl code bi fp pn) tg g) (ht : ∀ A s H C cl code bi fp pn, Room k A → PTs (gxAt X own caps scope A s H C cl code bi fp pn) ifs tt)
    (he : ∀ A s H C cl code bi fp pn, Room k A → PE (gxAt X own caps scope A s H C cl code bi fp pn) elt te)
    (hs : ∀ v, genFold iter X.env v = pure v) (I : Inv X pins σ H s) (h : tGx P wi g tt te own cix q σ H Q)
    (hQ : ∀ (Y : Cx) (a : Addr) (go : Obj) (gi n : Nat) (s5 : Shared) (H5 : Hp), Y.prog = X.prog → Y.w = X.w → Y.pn = [(a, go)] → (∀ h : Heap, h.get? a = some go → h.IsGen a gi) → Inv Y [] (gσ own cix σ) H5 s5 →
      (∀ s6 : Shared, s6.gens = s5.gens → (∀ b o, s5.heap.get? b = some o → s6.heap.get? b = some o) → s6.os = s5.os → ∃ gs : GenState, s6.gens[gi]? = some gs ∧ gs.Goes (model X.prog X.w) X.A.in1.in1 (RGx Y (gσ own cix σ) q Q) (YGx Y (gσ own cix σ) q Q) n (.send .none) (s6.setGen gi .running)) →
      (∀ s' H' v, Inv Y [] (gσ own cix σ) H' s' → Q v H' → ∀ u, RelV v u → EP X pins σ Q u s') → Q' (.ref a) s5) :
    wpAny (model X.prog X.w) X.A (eval (.GeneratorExp elt [⟨tg, iter, ifs, 0⟩] scope gpos) X.env) Q' X.xe s := by
  have hfree : ∀ y ∈ scope.names, y.2 = .free → ∃ c, X.env.cells.lookup y.1 = some c := fun y hy e => by
    rcases S.free y hy e with k | k
    · exact I.ok.has _ (.inl k)
    · exact I.ok.has _ (.inr k)
  refine wpAny_GeneratorExp_make S.co (closure_ok hfree) S.cell S.dot S.kind hr.depth (thn (hi.run pins s σ H _ I h) fun xv s1 hx => thn hx fun itv s2 h2 => ?_) hs
  obtain ⟨it, fp, tn, J, H2, e, I2, T, st2, f2, ⟨ps, hP, htr⟩, q2⟩ := h2
  subst e
  have hPs : s2.heap.get? P = some { cls := .none, data := .fields ps } := I2.hok P _ hP
  have hPlt : P < s2.heap.objs.size := Heap.lt_size hPs
  have cd : PySem.W.CodeHd s2.heap c P := TB.code.keeps I2.bk
  have sz : ∀ b ∈ fp, b < s2.heap.objs.size := fun b hb => by
    obtain ⟨o, e, _⟩ := T.obj _ _ st2 b hb
    exact Heap.lt_size e
  have nfP : ∀ b ∈ fp, b ≠ P := fun b hb e => by
    have := (f2 b hb).1
    rw [e, hP] at this
    cases this
  have cont : ∀ (code : Value) (h3 : Heap) (tk : Nat) (ps' : Array Value), Heap.ExtBut P s2.heap h3 → s2.heap.objs.size ≤ h3.objs.size → h3.get? P = some { cls := .none, data := .fields ps' } → (∃ more, ps' = ps ++ more) → TriplesOk ps'.toList →
      wpAny (model X.prog X.w) X.A (builtinsFor X.env.globals X.env.builtins) (fun bi s₄ =>
        ∀ h', h'.Ns s₄.heap.objs.size (fun y => if y = ".0" then some (.ref it) else none) → Heap.SameBut s₄.heap.objs.size (s₄.heap.push { cls := .type "frame", data := .dict #[] }) h' →
          Q' (.ref h'.objs.size) { s₄ with
            gens := s₄.gens.push (.fresh (.compStart (.GeneratorExp elt [⟨tg, iter, ifs, 0⟩] scope gpos) 0 (.ref it) .none (genEnv scope (cloFrom X.env.cells scope.names []) s₄.heap.objs.size code bi X.env))),
            toks := s₄.toks + 1 + 1 + 1,
            heap := h'.push { cls := .type "generator", data := .fields #[.int s₄.gens.size 0, .str "<genexpr>" (s₄.toks + 1), .str (X.env.qual ++ "<genexpr>") (s₄.toks + 1 + 1)] } }) X.xe { s2 with heap := h3, toks := tk } := by
    intro code h3 tk ps' hx hsz hP3 hmore ht3
    obtain ⟨bm, ob, e1, e2, e3, e4, e5, e6, e7, e8⟩ := TB.bm
    have keep3 : ∀ b u, b ≠ P → s2.heap.get? b = some u → h3.get? b = some u := fun b u hb e => hx b u hb e
    refine wpAny_builtinsFor (m := X.mg) (by rw [I2.ok.glob]; exact (I2.mod.glob.keeps I2.bk).extBut hx TB.gP) e1 e2 (keep3 _ _ e4 (I2.bk _ _ e5)) e6 e7 e8 ?_
    obtain ⟨more, em⟩ := hmore
    have I4 : Inv X pins σ (upd H2 P (.tbl (ps ++ more))) { s2 with heap := h3, toks := tk } :=
      GxR.inv_tab (g' := s2.gens) (d' := s2.drawn) I2 hP keep3 (by rw [← em]; exact hP3) I2.bare
    have tb : GxR.Tabbed P H2 (upd H2 P (.tbl (ps ++ more))) := ⟨⟨ps ++ more, upd_same, by rw [← em]; exact ht3⟩, fun b hb => upd_ne hb⟩
    obtain ⟨W, m, w0, hW⟩ := q2 _ tb
    generalize hH4 : upd H2 P (.tbl (ps ++ more)) = H4 at I4 w0 tb
    generalize hs4 : ({ s2 with heap := h3, toks := tk } : Shared) = s4 at I4 ⊢
    have h4 : s4.heap = h3 := by rw [← hs4]
    have g4 : s4.gens = s2.gens := by rw [← hs4]
    have f4 : ∀ b ∈ fp, FpOk X pins H4 b ∧ b < s4.heap.objs.size := fun b hb => by
      refine ⟨⟨?_, (f2 b hb).2⟩, by rw [h4]; exact Nat.lt_of_lt_of_le (sz b hb) hsz⟩
      rw [tb.2 b (nfP b hb)]
      exact (f2 b hb).1
    have st4 : tn 0 s4.heap := T.keep _ _ _ st2 fun b hb o e => by rw [h4]; exact keep3 b o (nfP b hb) e
    intro h' hn' hs'
    have hsz' : h'.objs.size = s4.heap.objs.size + 1 := by rw [hs'.1, Heap.size_push]
    have keep' : ∀ b o, s4.heap.get? b = some o → h'.get? b = some o := fun b o e => hs'.extBut b o (Nat.ne_of_lt (Heap.lt_size e)) (Heap.get?_push_of_some _ e)
    generalize hgo : ({ cls := .type "generator", data := .fields #[.int s4.gens.size 0, .str "<genexpr>" (s4.toks + 1), .str (X.env.qual ++ "<genexpr>") (s4.toks + 1 + 1)] } : Obj) = go
    have goG : ∀ h : Heap, h.get? h'.objs.size = some go → h.IsGen h'.objs.size s4.gens.size := fun h e => ⟨go, _, _, e, by rw [← hgo], by rw [← hgo], by rw [← hgo]⟩
    have hgetg : (h'.push go).get? h'.objs.size = some go := by
      rw [← hgo]
      exact Heap.get?_push_size _ rfl
    have hgd : ∀ v, go.data ≠ .cell v := fun v q => by rw [← hgo] at q; cases q
    have keep5 : ∀ b o, s4.heap.get? b = some o → (h'.push go).get? b = some o := fun b o e => Heap.get?_push_of_some _ (keep' b o e)
    generalize hc0 : (.compStart (.GeneratorExp elt [⟨tg, iter, ifs, 0⟩] scope gpos) 0 (.ref it) .none (genEnv scope (cloFrom X.env.cells scope.names []) s4.heap.objs.size code builtinsNs X.env) : Code) = c0
    have I5 : Inv (gxCx X (X.A.in1.in1.deeper (genEnv scope (cloFrom X.env.cells scope.names []) s4.heap.objs.size code builtinsNs X.env)) (own ++ caps) s4 H4 (genEnv scope (cloFrom X.env.cells scope.names []) s4.heap.objs.size code builtinsNs X.env) fp [(h'.objs.size, go)]) [] (gσ own cix σ) H4
        { s4 with gens := s4.gens.push (.fresh c0), toks := s4.toks + 1 + 1 + 1, heap := h'.push go } := by
      refine gx_start I4 S f4 hr.hd ?_ keep5 ⟨_, hn'.push _⟩ rfl (AllBare.push I4.bare rfl) (by omega) hgetg hgd
      show X.A.frames.map _ = _
      rw [I4.ok.frames]
      rfl
    have hr' : Room k (X.A.in1.in1.deeper (genEnv scope (cloFrom X.env.cells scope.names []) s4.heap.objs.size code builtinsNs X.env)) :=
      ⟨hr.hd, by have := hr.dp; show X.A.depth + 1 + 3 * k + 5 < _; omega, by have := hr.un; show X.A.units + 1 + 1 + 3 + 16 * k + 200 < _; omega⟩
    have hpn : ∀ p ∈ [(h'.objs.size, go)], p.1 ∉ fp := fun p hp hb => by
      rw [List.mem_singleton.mp hp] at hb
      have h6 := (f4 _ hb).2
      have h7 : (h'.objs.size : Nat) < s4.heap.objs.size := h6
      omega
    refine hQ (gxCx X (X.A.in1.in1.deeper (genEnv scope (cloFrom X.env.cells scope.names []) s4.heap.objs.size code builtinsNs X.env)) (own ++ caps) s4 H4 (genEnv scope (cloFrom X.env.cells scope.names []) s4.heap.objs.size code builtinsNs X.env) fp [(h'.objs.size, go)]) h'.objs.size go s4.gens.size (m + 1) _ H4 rfl rfl rfl goG I5 (fun s6 hg6 hk6 ho6 => ⟨.fresh c0, ?_, rfl, ?_⟩) fun s' H' v I' hv u ru => ?_
    · rw [hg6]
      exact Array.getElem?_push_size ..
    · have J6 := inv_gens (s' := s6.setGen s4.gens.size .running) I5 hk6 ho6 (allBare_setGen (by rw [hg6]; exact I5.bare) rfl)
      rw [← hc0]
      exact seg_gxS (A := X.A.in1.in1) rfl rfl hpn rfl rfl S.co T (hg _ _ _ _ _ _ _ _ _ hr') (ht _ _ _ _ _ _ _ _ _ hr') (he _ _ _ _ _ _ _ _ _ hr') hW (Nat.lt_succ_self m) J6 (T.keep _ _ _ st4 fun b hb o e => hk6 b o (keep5 b o e)) (fun b hb => (f4 b hb).1.1) w0
    · exact ⟨v, H', I4.call' (ch := fp) I'.os I'.base I'.hok I'.bare fun b hb => ⟨(f4 b hb).1.2.2.2.1, (f4 b hb).1.2.1, (f4 b hb).1.2.2.2.2.1, (f4 b hb).1.2.2.2.2.2⟩, ru, hv⟩
  refine ⟨I2.nolimit, ?_⟩
  cases hf : codeAmong gpos ps.toList with
  | none =>
    refine wpAny_genexprCodeX hcode (cd.code hPs htr) (cd.tab hPs) hf fun c' h' tk hx hge hlt hco' _ htab' _ => ?_
    obtain ⟨o1, vs, f1, tf, fl, tg', inF, tx, tt', op, _, _, _, _, _, _, _, _, _, htr', _⟩ := hco'
    exact cont _ h' tk _ hx (Nat.le_trans hge (Nat.le_of_lt hlt)) htab'.2 ⟨_, rfl⟩ htr'
  | some cv =>
    refine wpAny_genexprCode_hit hcode (cd.code hPs htr) hf ?_
    exact cont cv s2.heap s2.toks ps (Heap.ExtBut.refl _ _) (Nat.le_refl _) hPs ⟨#[], by simp⟩ htr

variable {c P : Addr} {elt tg iter : Expr} {ifs : List Expr} {p pos gpos : Pos} {scope : Scope} {own caps : List Str} {cix : List Nat} {wi : TI} {g : TG} {tt : TT} {te : TE} {k : Nat}
theorem pe_allG (hr : Room (k + 1) X.A) (hgl : Gl X "all") (hm : X.mg "all" = none) (TB : GxR.TabB X.base X.mg c P) (hcode : X.env.code = .ref c) (S : GxS X.env.scope X.N scope own caps cix) (hi : PI X tg iter wi)
    (hg : ∀ A s H C cl code bi fp pn, Room k A → PG (gxAt X own caps scope A s H C cl code bi fp pn) tg g) (ht : ∀ A s H C cl code bi fp pn, Room k A → PTs (gxAt X own caps scope A s H C cl code bi fp pn) ifs tt)
    (he : ∀ A s H C cl code bi fp pn, Room k A → PE (gxAt X own caps scope A s H C cl code bi fp pn) elt te)
    (hs : ∀ v, genFold iter X.env v = pure v := by intro _; rfl)
    (hst : starEach [.GeneratorExp elt [⟨tg, iter, ifs, 0⟩] scope gpos] X.env = (false, eval (.GeneratorExp elt [⟨tg, iter, ifs, 0⟩] scope gpos) X.env) :: starEach [] X.env := by rfl) :
    PE X (.Call (.Name "all" p) [.GeneratorExp elt [⟨tg, iter, ifs, 0⟩] scope gpos] [] pos) (tGx P wi g tt te own cix false) := by
  refine ⟨fun pins s σ H Q I h => ?_⟩
  refine wpAny_Call_Name_kw (ld_blt I hgl hm boot_all ?_)
  refine PyProof.Rows.callWith_builtin1 ?_ hst (by rfl)
  rw [hst]
  show wpAny _ _ (spliced ((false, eval (.GeneratorExp elt [⟨tg, iter, ifs, 0⟩] scope gpos) X.env) :: backTo pos (starEach [] X.env))) _ _ s
  refine Calls.spliced_cons (gx_make hr TB hcode S hi hg ht he hs I h fun Y a go gi n s5 H5 eP ew hp goG I5 hgoes hback => ?_)
  refine Calls.spliced_nil ?_
  have hd := hr.depth
  refine call_function_tree F.kind_all F.plain_all F.entry_all (F.args_all1 _) ?_
  unfold Builtin.«all»
  refine wpAny_bind (m := oneArg "all" _) (wpAny_pure ?_)
  refine wpAny_bind (wpAny_pyIter_gen (s := s5) (pin_gen hp goG I5) ?_)
  refine wpAny_pure ⟨plainId_quiet F.plain_all_loop _, ?_⟩
  rw [← eP, ← ew] at hgoes ⊢
  refine codeAny_mono (all_gx (A := X.A) hp goG hr.hd hd n s5 H5 I5 (hgoes s5 rfl (fun _ _ z => z) rfl)) fun r s' ⟨b, H', er, I', q'⟩ => ?_
  subst er
  exact hback s' H' (.bl b) I' q' _ rfl
theorem pe_anyG (hr : Room (k + 1) X.A) (hgl : Gl X "any") (hm : X.mg "any" = none) (TB : GxR.TabB X.base X.mg c P) (hcode : X.env.code = .ref c) (S : GxS X.env.scope X.N scope own caps cix) (hi : PI X tg iter wi)
    (hg : ∀ A s H C cl code bi fp pn, Room k A → PG (gxAt X own caps scope A s H C cl code bi fp pn) tg g) (ht : ∀ A s H C cl code bi fp pn, Room k A → PTs (gxAt X own caps scope A s H C cl code bi fp pn) ifs tt)
    (he : ∀ A s H C cl code bi fp pn, Room k A → PE (gxAt X own caps scope A s H C cl code bi fp pn) elt te)
    (hs : ∀ v, genFold iter X.env v = pure v := by intro _; rfl)
    (hst : starEach [.GeneratorExp elt [⟨tg, iter, ifs, 0⟩] scope gpos] X.env = (false, eval (.GeneratorExp elt [⟨tg, iter, ifs, 0⟩] scope gpos) X.env) :: starEach [] X.env := by rfl) :
    PE X (.Call (.Name "any" p) [.GeneratorExp elt [⟨tg, iter, ifs, 0⟩] scope gpos] [] pos) (tGx P wi g tt te own cix true) := by
  refine ⟨fun pins s σ H Q I h => ?_⟩
  refine wpAny_Call_Name_kw (ld_blt I hgl hm boot_any ?_)
  refine PyProof.Rows.callWith_builtin1 ?_ hst (by rfl)
  rw [hst]
  show wpAny _ _ (spliced ((false, eval (.GeneratorExp elt [⟨tg, iter, ifs, 0⟩] scope gpos) X.env) :: backTo pos (starEach [] X.env))) _ _ s
  refine Calls.spliced_cons (gx_make hr TB hcode S hi hg ht he hs I h fun Y a go gi n s5 H5 eP ew hp goG I5 hgoes hback => ?_)
  refine Calls.spliced_nil ?_
  have hd := hr.depth
  refine call_function_tree F.kind_any F.plain_any F.entry_any (F.args_any1 _) ?_
  unfold Builtin.«any»
  refine wpAny_bind (m := oneArg "any" _) (wpAny_pure ?_)
  refine wpAny_bind (wpAny_pyIter_gen (s := s5) (pin_gen hp goG I5) ?_)
  refine wpAny_pure ⟨plainId_quiet F.plain_any_loop _, ?_⟩
  rw [← eP, ← ew] at hgoes ⊢
  refine codeAny_mono (any_gx (A := X.A) hp goG hr.hd hd n s5 H5 I5 (hgoes s5 rfl (fun _ _ z => z) rfl)) fun r s' ⟨b, H', er, I', q'⟩ => ?_
  subst er
  exact hback s' H' (.bl b) I' q' _ rfl
end
end Gx
set_option Elab.async false
set_option linter.all false
set_option maxRecDepth 100000
set_option maxHeartbeats 2000000
namespace Gx
open PySem PySem.Spec PyProof.Rows L2 RT
section
variable {prog : Program} {w : World} {A : Around} {E : Value → Shared → Prop} {s : Shared}
/-- list(a list's reverse iterator) -/
theorem call_list_rev {it l : Addr} {items : Array Value} {Q : Value → Shared → Prop} (hh : A.handled = none) (hit : s.heap.IsRevIter it l ((items.size : Int) - 1)) (hl : s.heap.IsList l items) (hne : l ≠ it) (hn : items.size ≤ sizeLine)
    (hQ : ∀ (h' : Heap) (tk : Nat) (acc : Array Value) (c : Nat), (∀ b o, b ≠ it → s.heap.get? b = some o → h'.get? b = some o) → h'.get? s.heap.objs.size = some { cls := .type "list", dict := none, data := .seq acc c, slots := #[] } →
      ItemsOf (fun i v => items[items.size - 1 - i]? = some v) acc items.size → Q (.ref s.heap.objs.size) { s with heap := h', toks := tk }) :
    wpAny (model prog w) A (call (.type "list") [.ref it]) Q E s := by
  obtain ⟨oi, hoi, _⟩ := id hit
  obtain ⟨ol, hol, _⟩ := id hl
  have hSi : s.heap.objs.size ≠ it := Nat.ne_of_gt (Heap.lt_size hoi)
  have hSl : s.heap.objs.size ≠ l := Nat.ne_of_gt (Heap.lt_size hol)
  have hSf : s.heap.objs.size ∉ [it, l] := by simp only [List.mem_cons, List.not_mem_nil, or_false, not_or]; exact ⟨hSi, hSl⟩
  refine callType_codes (Q₁ := fun obj s₁ => obj = .ref s.heap.objs.size ∧ s₁ = { s with heap := s.heap.push { cls := .type "list", data := .seq #[] } }) F.called_list (F.typeCall_list_1 _) F.entry_list_init (code_list_new _ ⟨rfl, rfl⟩) fun obj s₁ h₁ => ?_
  obtain ⟨rfl, rfl⟩ := h₁
  have hS : (s.heap.push { cls := .type "list", data := .seq #[] }).get? s.heap.objs.size = some { cls := .type "list", data := .seq #[] } := Heap.get?_push_size _ rfl
  refine ⟨⟨_, hS, rfl⟩, F.args_list_init_2 _ _, ?_⟩
  have W := (Walks.listRev (prog := prog) (w := w) (A := A.in1.in1) hh it l hne items).toS
  show wpAny _ A.in1.in1 (do let old ← Builtin.List.listItems (.ref s.heap.objs.size); Builtin.List.listUpdate (.ref s.heap.objs.size) (fun _ => #[]); letGo old.toList.reverse; Builtin.List.listExtendWith (.ref s.heap.objs.size) (.ref it) .none) _ _ _
  refine wpAny_bind ?_
  unfold Builtin.List.listItems
  refine wpAny_bind (wpAny_seqItems hS rfl (wpAny_pure ?_))
  show wpAny _ A.in1.in1 (updateSeq s.heap.objs.size (fun _ => #[]) >>= fun _ => letGo (#[] : Array Value).toList.reverse >>= fun _ => Builtin.List.listExtendWith (.ref s.heap.objs.size) (.ref it) .none) _ _ _
  refine wpAny_bind (wpAny_updateSeq hS rfl ?_)
  have hS2 := Heap.get?_update_self (Obj.mapSeq (fun _ => (#[] : Array Value))) hS rfl
  refine wpAny_bind (wpAny_letGo ?_)
  have k1 : ∀ b o, s.heap.get? b = some o → (s.heap.push { cls := .type "list", data := .seq #[] }).get? b = some o := fun b o e => Heap.get?_push_of_some _ e
  have k2 : ∀ b o, s.heap.get? b = some o → ((s.heap.push { cls := .type "list", data := .seq #[] }).update s.heap.objs.size (Obj.mapSeq (fun _ => (#[] : Array Value)))).get? b = some o := fun b o e =>
    (Heap.get?_update_other _ _ (Ne.symm (Nat.ne_of_lt (Heap.lt_size e)))).trans (k1 b o e)
  generalize hH2 : (s.heap.push { cls := .type "list", data := .seq #[] }).update s.heap.objs.size (Obj.mapSeq (fun _ => (#[] : Array Value))) = H2 at hS2 k2
  have hit1 : H2.IsRevIter it l ((items.size : Int) - 1) := hit.at fun o e => k2 _ o e
  have hl1 : H2.IsList l items := by
    obtain ⟨o, ho, r⟩ := hl
    exact ⟨o, k2 _ _ ho, r⟩
  have hT : ({ s with heap := H2 } : Shared).TypeIs (.ref it) "list_reverseiterator" := Heap.IsRevIter.typeIs (s := { s with heap := H2 }) hit1
  have h1 : Builtin.List.listSameRef (.ref s.heap.objs.size) (.ref it) = false := by simp [Builtin.List.listSameRef, hSi]
  unfold Builtin.List.listExtendWith
  refine wpAny_bind (wpAny_typeOf hT ?_)
  rw [if_neg (by rw [h1]; decide)]
  refine wpAny_bind (wpAny_pyIter_revIter (s := { s with heap := H2 }) hit1 ?_)
  refine wpAny_bind (wpAny_holding ?_)
  unfold Builtin.List.listLengthHint
  refine wpAny_bind (wpAny_specialOf hT nolen_lri ?_)
  show wpAny _ A.in1.in1 (specialOf (Value.ref it) (Str.ofString "__length_hint__") >>= _) _ _ _
  refine wpAny_bind (wpAny_specialOf hT hint_lri ?_)
  generalize hid : ("list_reverseiterator.__length_hint__" : String) = id0
  wp_delta
  rw [show splitId id0 = some ("list_reverseiterator", "__length_hint__") from by subst hid; decide +kernel]
  subst hid
  refine wpAny_bind (wpAny_isInstance (b := true) hT (by rw [isSubtype_type]; kernel_rfl) ?_)
  refine wpAny_pure ?_
  rw [if_neg (by decide)]
  have e0 : ((items.size : Nat) : Int) - 1 - ((0 : Nat) : Int) = (items.size : Int) - 1 := by omega
  refine wpAny_pure ⟨plainId_quiet F.plain_extend_loop _, codeAny_extend_loopS (A := A.in1) W hn _ hSf _ items.size 0 _ _ _ rfl (Nat.zero_le _) ⟨Nat.zero_le _, by rw [e0]; exact hit1, hl1⟩ hS2 (ItemsOf.nil _) fun s' acc' c' hm hS' hacc => ?_⟩
  rw [Moved.eq_with hm]
  refine ⟨rfl, hQ s'.heap s'.toks acc' c' (fun b o hb e => hm.heap b o (fun hmem => ?_) (k2 b o e)) hS' hacc⟩
  rcases List.mem_cons.mp hmem with e' | hmem
  · exact absurd (Heap.lt_size e) (by rw [e']; exact Nat.lt_irrefl _)
  · exact hb (List.mem_singleton.mp hmem)
end
section
variable {X : Cx}
/-- list(reversed(a list)) -/
def tListRev (K : PySem.W.Frag) (te : TE) : TE := fun σ H Q => te σ H fun v H1 => ∃ (a : Addr) (xs : List V), v = .ref a ∧ SqL K H1 a xs ∧ ∀ q, H1 q = none → Q (.ref q) (upd H1 q (.lst xs.reverse))
theorem pe_listRev {e : Expr} {te : TE} {p p2 pos pos2 : Pos} (hc : X.calm = true) (hg : Gl X "list") (hm : X.mg "list" = none) (hg2 : Gl X "reversed") (hm2 : X.mg "reversed" = none) (he : PE X e te)
    (hs : starEach [e] X.env = (false, eval e X.env) :: starEach [] X.env := by rfl)
    (hs2 : starEach [.Call (.Name "reversed" p2) [e] [] pos2] X.env = (false, eval (.Call (.Name "reversed" p2) [e] [] pos2) X.env) :: starEach [] X.env := by rfl) :
    PE X (.Call (.Name "list" p) [.Call (.Name "reversed" p2) [e] [] pos2] [] pos) (tListRev X.K te) := by
  refine ⟨fun pins s σ H Q I h => ?_⟩
  refine Call_ (ld_blt I hg hm boot_list (PyProof.Rows.callWith_type1 (args_cons (Call_ (ld_blt I hg2 hm2 PyProof.Rows.boot_reversed (PyProof.Rows.callWith_type1 (args_cons (thn (he.run pins s σ H _ I h) fun u s1 ⟨v, H1, I1, r1, q1⟩ => args_nil ?_) hs) hs rfl))) hs2) hs2 rfl))
  obtain ⟨a, xs, ev, hq, q⟩ := q1
  subst ev
  obtain rfl : u = Value.ref a := r1
  obtain ⟨its, rv, p', hz⟩ := I1.list hq
  refine call_reversed_list p'.isList (args_nil ?_)
  have k0 : ∀ b o, s1.heap.get? b = some o → (s1.heap.push (revObj a ((its.toArray.size : Int) - 1))).get? b = some o := fun b o e => Heap.get?_push_of_some _ e
  have I2 : Inv X pins σ H1 { s1 with heap := s1.heap.push (revObj a ((its.toArray.size : Int) - 1)) } := I1.kept (t' := s1.toks) k0
  obtain ⟨f0, f1, f2, f3, f4, f5⟩ := I1.fpOk (H' := H1) (b := s1.heap.objs.size) (Nat.le_refl _) (I1.hok.fresh (Nat.le_refl _))
  have hl := p'.isList
  obtain ⟨ol, hol, _⟩ := id hl
  have hne : a ≠ s1.heap.objs.size := Nat.ne_of_lt (Heap.lt_size hol)
  have hn : its.toArray.size ≤ sizeLine := by rw [List.size_toArray, ← rv.length]; exact hz
  have hsz : (s1.heap.push (revObj a ((its.toArray.size : Int) - 1))).objs.size = s1.heap.objs.size + 1 := Heap.size_push ..
  refine call_list_rev (s := { s1 with heap := s1.heap.push (revObj a ((its.toArray.size : Int) - 1)) }) (I1.ok.hd hc) ⟨_, Heap.get?_push_size _ rfl, rfl, rfl⟩ (hl.push _) hne hn fun h' tk acc c hk hget hi => ?_
  have hD : H1 (s1.heap.push (revObj a ((its.toArray.size : Int) - 1))).objs.size = none := I1.hok.fresh (by rw [hsz]; omega)
  have J : Inv X pins σ H1 { s1 with heap := h', toks := tk } := I2.turned (t' := tk) (fun b o hb e => hk b o hb e) f0 f1 f3 f4 f5
  have I3 : Inv X pins σ (upd H1 (s1.heap.push (revObj a ((its.toArray.size : Int) - 1))).objs.size (.lst xs.reverse)) { s1 with heap := h', toks := tk } := by
    refine I2.drained (ex := [s1.heap.objs.size]) (Nat.le_refl _) (by rw [List.length_reverse]; exact hz) hget (vals_rev rv hi) (fun b hb => ?_) rfl I1.bare ⟨fun b o e n _ hx => ?_, fun b o e n _ hx => ⟨o.slots, ?_⟩, fun b o e n _ => n, fun b o e hx => ⟨o, ?_⟩, fun _ _ e => e, fun _ _ _ e => e, fun b ps e => ⟨#[], by rw [e]; simp⟩⟩ J.hok hD
    · rw [List.mem_singleton.mp hb]
      exact ⟨f3, f1, f4, f5⟩
    · exact hk b o (fun z => hx (by rw [z]; exact List.mem_singleton.mpr rfl)) e
    · exact hk b o (fun z => hx (by rw [z]; exact List.mem_singleton.mpr rfl)) e
    · exact hk b o (fun z => hx (by rw [z]; exact List.mem_singleton.mpr rfl)) e
  exact ⟨.ref _, _, I3, rfl, q _ hD⟩
/-- list(a text): its signs -/
def rListStr : List V → Hp → VK → Prop := fun xs H Q => ∃ z : Str, xs = [.str z] ∧ z.length ≤ sizeLine ∧ ∀ q, H q = none → Q (.ref q) (upd H q (.lst (z.cps.toList.map fun c => V.str ⟨#[c]⟩)))
theorem call_listStr (hc : X.calm = true) : CallR X (.type "list") rListStr := by
  intro pins s σ H xs us Q I r h
  obtain ⟨z, rfl, hz, q⟩ := h
  cases r with
  | cons r rr =>
    cases rr
    obtain ⟨t, rfl⟩ := r
    refine call_list_str (hn := hz) (I.ok.hd hc) z t fun h' tk acc c hk hget hi => ?_
    have hD : H s.heap.objs.size = none := I.hok.fresh (Nat.le_refl _)
    refine ⟨.ref s.heap.objs.size, _, I.laid (o := .lst (z.cps.toList.map fun c => V.str ⟨#[c]⟩)) (t' := tk) hk (Nat.le_refl _) ⟨by rw [List.length_map, Array.length_toList]; exact hz, acc.toList, c, ?_, by rw [hget]⟩, rfl, q _ hD⟩
    refine vals_of_at ?_ fun j x u e1 e2 => ?_
    · rw [List.length_map]
      have := hi.1
      simp [this]
    · rw [Array.getElem?_toList] at e2
      obtain ⟨c1, t1, e3, e4⟩ := hi.2 j u e2
      rw [List.getElem?_map, Array.getElem?_toList, e3] at e1
      cases e1
      exact ⟨t1, e4⟩
end
end Gx
set_option Elab.async false
set_option linter.all false
set_option maxRecDepth 100000
set_option maxHeartbeats 2000000
namespace Gx
open PySem PySem.Spec PyProof.Rows L2

/-! ### walks of a generator expression -/
section
variable {K : PySem.W.Frag} {g : TG} {tt : TT} {te : TE} {σ' : L2.St} {q : Bool} {Q : VK} {H : Hp}
def gxTurn (g : TG) (tt : TT) (te : TE) (σ' : L2.St) (q : Bool) (Q : VK) (x : V) (H : Hp) (N : Hp → Prop) : Prop := g x σ' H fun σ2 H2 => Wk σ' σ2 ∧ tt σ2 H2 fun b H3 =>
    if b = true then te σ2 H3 fun y H4 => ∃ c, y = .bl c ∧ (if c = q then Q (.bl q) H4 else N H4) else N H3
theorem gx_by {J : It} {n : Nat} (Pv : Nat → Hp → Prop) (h0 : Pv 0 H) (hgo : ∀ i H, i < n → Pv i H → J.go i H) (hst : ∀ H, Pv n H → J.stop n H)
    (hs : ∀ i x H H', i < n → Pv i H → J.yld i H x H' → gxTurn g tt te σ' q Q x H' (Pv (i + 1))) (hd : ∀ H, Pv n H → Q (.bl (!q)) H) :
    ∃ (W : Nat → Nat → Hp → Prop) (m : Nat), W 0 m H ∧ gxW J g tt te σ' q Q W := by
  refine ⟨fun i m H => m = n - i ∧ i ≤ n ∧ Pv i H, n, ⟨by omega, Nat.zero_le _, h0⟩, ?_⟩
  rintro i m H ⟨rfl, hi, p⟩
  by_cases hlt : i < n
  · refine .inr ⟨hgo i H hlt p, Pv (i + 1), fun H' p' => ⟨n - (i + 1), by omega, rfl, by omega, p'⟩, fun x H' y => ?_⟩
    exact hs i x H H' hlt p y
  · have e : i = n := by omega
    subst e
    exact .inl ⟨hst H p, hd H p⟩
/-- over a text -/
theorem gx_str {x : Str} (Pv : Nat → Hp → Prop) (h0 : Pv 0 H) (hs : ∀ (i c : Nat) H, x.cps[i]? = some c → Pv i H → gxTurn g tt te σ' q Q (.str ⟨#[c]⟩) H (Pv (i + 1))) (hd : ∀ H, Pv x.cps.size H → Q (.bl (!q)) H) :
    ∃ (W : Nat → Nat → Hp → Prop) (m : Nat), W 0 m H ∧ gxW (Its x) g tt te σ' q Q W :=
  gx_by (n := x.cps.size) Pv h0 (fun i H h _ => h) (fun H _ => Nat.le_refl _) (fun i v H H' h p ⟨e1, c, e2, e3⟩ => by subst e1 e3; exact hs i c _ e2 p) hd
/-- over a list that stays -/
theorem gx_list {a : Addr} {xs : List V} (Pv : Nat → Hp → Prop) (h0 : Pv 0 H) (hl : ∀ i H, Pv i H → SqL K H a xs) (hs : ∀ (i : Nat) v H, xs[i]? = some v → Pv i H → gxTurn g tt te σ' q Q v H (Pv (i + 1))) (hd : ∀ H, Pv xs.length H → Q (.bl (!q)) H) :
    ∃ (W : Nat → Nat → Hp → Prop) (m : Nat), W 0 m H ∧ gxW (Itl K a) g tt te σ' q Q W :=
  gx_by (n := xs.length) Pv h0 (fun i H h p => ⟨xs, xs[i], hl i H p, by simp [h]⟩) (fun H p => ⟨xs, hl _ H p, Nat.le_refl _⟩) (fun i v H H' h p ⟨e1, e2⟩ => by subst e1; exact hs i v _ (e2 xs (hl i _ p)) p) hd
theorem gx_tup {a : Addr} {xs : List V} (Pv : Nat → Hp → Prop) (h0 : Pv 0 H) (hl : ∀ i H, Pv i H → SqT K H a xs) (hs : ∀ (i : Nat) v H, xs[i]? = some v → Pv i H → gxTurn g tt te σ' q Q v H (Pv (i + 1))) (hd : ∀ H, Pv xs.length H → Q (.bl (!q)) H) :
    ∃ (W : Nat → Nat → Hp → Prop) (m : Nat), W 0 m H ∧ gxW (Itt K a) g tt te σ' q Q W :=
  gx_by (n := xs.length) Pv h0 (fun i H h p => ⟨xs, xs[i], hl i H p, by simp [h]⟩) (fun H p => ⟨xs, hl _ H p, Nat.le_refl _⟩) (fun i v H H' h p ⟨e1, e2⟩ => by subst e1; exact hs i v _ (e2 xs (hl i _ p)) p) hd
theorem gx_rng {lo : Int} {n : Nat} (Pv : Nat → Hp → Prop) (h0 : Pv 0 H) (hs : ∀ (i : Nat) H, i < n → Pv i H → gxTurn g tt te σ' q Q (.int (lo + i)) H (Pv (i + 1))) (hd : ∀ H, Pv n H → Q (.bl (!q)) H) :
    ∃ (W : Nat → Nat → Hp → Prop) (m : Nat), W 0 m H ∧ gxW (Itr lo n) g tt te σ' q Q W :=
  gx_by (n := n) Pv h0 (fun i H h _ => h) (fun H _ => Nat.le_refl _) (fun i v H H' h p ⟨e1, e3⟩ => by subst e1 e3; exact hs i _ h p) hd
end

/-! ### a for over a text; a comprehension over a text -/
theorem for_str {x : Str} {g : TG} {tb : TS} {D : Ends} {σ : L2.St} {H : Hp} (Pv : Nat → L2.St → Hp → Prop) (h0 : Pv 0 σ H)
    (hs : ∀ (i c : Nat) σ H, x.cps[i]? = some c → Pv i σ H → g (.str ⟨#[c]⟩) σ H fun σ2 H2 => tb { D with nx := Pv (i + 1), ct := Pv (i + 1), bk := D.nx } σ2 H2) (hd : ∀ σ H, Pv x.cps.size σ H → D.nx σ H) :
    ∃ W : Nat → Nat → L2.St → Hp → Prop, (∃ m, W 0 m σ H) ∧ ∀ i m σ H, W i m σ H →
      ((Its x).stop i H ∧ D.nx σ H) ∨ ((Its x).go i H ∧ ∃ N : L2.St → Hp → Prop, (∀ σ' H', N σ' H' → ∃ m', m' < m ∧ W (i + 1) m' σ' H') ∧ ∀ v H', (Its x).yld i H v H' → g v σ H' fun σ2 H2 => tb { D with nx := N, ct := N, bk := D.nx } σ2 H2) := by
  refine ⟨fun i m σ H => m = x.cps.size - i ∧ i ≤ x.cps.size ∧ Pv i σ H, ⟨x.cps.size, by omega, Nat.zero_le _, h0⟩, ?_⟩
  rintro i m σ H ⟨rfl, hi, p⟩
  by_cases hlt : i < x.cps.size
  · refine .inr ⟨hlt, Pv (i + 1), fun σ' H' p' => ⟨x.cps.size - (i + 1), by omega, rfl, hlt, p'⟩, fun v H' ⟨e1, c, e2, e3⟩ => ?_⟩
    subst e1 e3
    exact hs i c σ _ e2 p
  · have e : i = x.cps.size := by omega
    subst e
    exact .inl ⟨Nat.le_refl _, hd σ H p⟩
theorem lc_str {x : Str} {g : TG} {tt : TT} {te : TE} {vs : List Nat} {σ : L2.St} {H1 : Hp} {D : Addr} {Qd : Hp → Prop} (Pv : Nat → Hp → Prop) (h0 : Pv 0 (upd H1 D (.lst [])))
    (hs : ∀ (i c : Nat) H, x.cps[i]? = some c → Pv i H → g (.str ⟨#[c]⟩) (wipe σ vs) H fun σ2 H2 => wipe σ2 vs = wipe σ vs ∧ tt σ2 H2 fun b H3 =>
      if b = true then te σ2 H3 fun y H4 => ∃ acc, H4 D = some (.lst acc) ∧ acc.length < sizeLine ∧ Pv (i + 1) (upd H4 D (.lst (acc ++ [y]))) else Pv (i + 1) H3) (hd : ∀ H, Pv x.cps.size H → Qd H) :
    ∃ W : Nat → Nat → Hp → Prop, (∃ m, W 0 m (upd H1 D (.lst []))) ∧ ∀ i m H, W i m H →
      ((Its x).stop i H ∧ Qd H) ∨ ((Its x).go i H ∧ ∃ Nx : Hp → Prop, (∀ H', Nx H' → ∃ m', m' < m ∧ W (i + 1) m' H') ∧ ∀ v H', (Its x).yld i H v H' → g v (wipe σ vs) H' fun σ2 H2 => wipe σ2 vs = wipe σ vs ∧ tt σ2 H2 fun b H3 =>
        if b = true then te σ2 H3 fun y H4 => ∃ acc, H4 D = some (.lst acc) ∧ acc.length < sizeLine ∧ Nx (upd H4 D (.lst (acc ++ [y]))) else Nx H3) := by
  refine ⟨fun i m H => m = x.cps.size - i ∧ i ≤ x.cps.size ∧ Pv i H, ⟨x.cps.size, by omega, Nat.zero_le _, h0⟩, ?_⟩
  rintro i m H ⟨rfl, hi, p⟩
  by_cases hlt : i < x.cps.size
  · refine .inr ⟨hlt, Pv (i + 1), fun H' p' => ⟨x.cps.size - (i + 1), by omega, rfl, hlt, p'⟩, fun v H' ⟨e1, c, e2, e3⟩ => ?_⟩
    subst e1 e3
    exact hs i c _ e2 p
  · have e : i = x.cps.size := by omega
    subst e
    exact .inl ⟨Nat.le_refl _, hd H p⟩

/-! ### what stays -/
/-- tables stay tables; all else that was tracked stays -/
structure Xt (H H' : Hp) : Prop where
  keep : ∀ b o, H b = some o → (∀ ps, o ≠ .tbl ps) → H' b = some o
  tab : ∀ P ps, H P = some (.tbl ps) → ∃ ps', H' P = some (.tbl ps') ∧ (TriplesOk ps.toList → TriplesOk ps'.toList)
theorem Xt.refl (H : Hp) : Xt H H := ⟨fun _ _ h _ => h, fun _ ps h => ⟨ps, h, id⟩⟩
theorem Xt.trans {H H1 H2 : Hp} (a : Xt H H1) (b : Xt H1 H2) : Xt H H2 := ⟨fun c o h n => b.keep c o (a.keep c o h n) n, fun P ps h => by
  obtain ⟨p1, e1, f1⟩ := a.tab P ps h
  obtain ⟨p2, e2, f2⟩ := b.tab P p1 e1
  exact ⟨p2, e2, fun z => f2 (f1 z)⟩⟩
theorem Xt.tabG {H H' : Hp} (x : Xt H H') {P : Addr} (h : GxR.TabG H P) : GxR.TabG H' P := by
  obtain ⟨ps, e, t⟩ := h
  obtain ⟨ps', e', f⟩ := x.tab P ps e
  exact ⟨ps', e', f t⟩
theorem Xt.new {H : Hp} {p : Addr} {o : HO} (h : H p = none) : Xt H (upd H p o) := ⟨fun b u e _ => by rw [upd_ne (ne_of_none e h)]; exact e, fun P ps e => ⟨ps, by rw [upd_ne (ne_of_none e h)]; exact e, id⟩⟩
/-- an object that H does not know may change -/
theorem Xt.mut {H H' : Hp} {p : Addr} {o : HO} (e : Xt H H') (h : H p = none) : Xt H (upd H' p o) := ⟨fun a u ha n => by
  rw [upd_ne (ne_of_none ha h)]
  exact e.keep a u ha n, fun P ps hP => by
  rw [upd_ne (ne_of_none hP h)]
  exact e.tab P ps hP⟩
theorem Xt.tabbed {H H' : Hp} {P : Addr} (hP : GxR.TabG H P) (t : GxR.Tabbed P H H') : Xt H H' := by
  refine ⟨fun b o e n => ?_, fun Q ps hQ => ?_⟩
  · by_cases hb : b = P
    · subst hb
      obtain ⟨ps, e2, _⟩ := hP
      rw [e] at e2; exact absurd (Option.some.inj e2) (n ps)
    · rw [t.2 b hb]
      exact e
  · by_cases h : Q = P
    · subst h
      obtain ⟨ps', e', t'⟩ := t.1
      exact ⟨ps', e', fun _ => t'⟩
    · exact ⟨ps, by rw [t.2 Q h]; exact hQ, id⟩
theorem Xt.lst {H H' : Hp} (x : Xt H H') {a : Addr} {xs : List V} (h : H a = some (.lst xs)) : H' a = some (.lst xs) := x.keep a _ h fun _ => nofun
theorem Xt.tup {H H' : Hp} (x : Xt H H') {a : Addr} {xs : List V} (h : H a = some (.tup xs)) : H' a = some (.tup xs) := x.keep a _ h fun _ => nofun
theorem Xt.free {H H' : Hp} (x : Xt H H') {a : Addr} (h : H' a = none) : H a = none := by
  cases q : H a with
  | none => rfl
  | some o =>
    by_cases ht : ∃ ps, o = .tbl ps
    · obtain ⟨ps, rfl⟩ := ht
      obtain ⟨ps', e', _⟩ := x.tab a ps q
      rw [h] at e'; cases e'
    · rw [x.keep a o q (fun ps e => ht ⟨ps, e⟩)] at h; cases h
theorem Xt.rd {H H' : Hp} (x : Xt H H') {a : Addr} {u : HO} (hu : ∀ ps, u ≠ .tbl ps) (h : Rd H a u) : Rd H' a u := by
  rcases h with h | ⟨o, h⟩
  · exact .inl (x.keep a _ h hu)
  · exact .inr ⟨o, x.keep a _ h fun _ => nofun⟩
theorem Xt.sqL {K : PySem.W.Frag} {H H' : Hp} (x : Xt H H') {a : Addr} {xs : List V} (h : SqL K H a xs) : SqL K H' a xs := by
  rcases h with h | h
  · exact .inl (x.rd (fun _ => nofun) h)
  · exact .inr h
theorem Xt.sqT {K : PySem.W.Frag} {H H' : Hp} (x : Xt H H') {a : Addr} {xs : List V} (h : SqT K H a xs) : SqT K H' a xs := by
  rcases h with h | h
  · exact .inl (x.rd (fun _ => nofun) h)
  · exact .inr h

/-! ### a def whose code object is known -/
structure FunT (K : PySem.W.Frag) (x : Str) (st : Stmt) (f : Addr) (fd : FuncData) (c : Addr) : Prop where
  ex : ∃ (oc : Value) (od : Option Addr) (kV doc pm : Value) (an : Option Addr) (ct : Value) (osl : Array (Option Value)),
    fd = PySem.W.fnOf x x (defArgs st) (defBody st) (defScope st) .none kV doc pm an (.ref c) ct ∧ K.lookup f = some ⟨oc, od, .func fd, osl⟩ ∧ PySem.W.codeIn K (.ref c) x = true
  kp : PySem.W.keepIn K (.ref f) = true
section
variable {P : Program} {w : World} {K : PySem.W.Frag} {mg : Str → Option Value} {base : Heap}
theorem FunT.toFun {x : Str} {st : Stmt} {f c : Addr} {fd : FuncData} (F : FunT K x st f fd c) : Fun K x x st f fd := by
  obtain ⟨oc, od, kV, doc, pm, an, ct, osl, e, lk, hcd⟩ := F.ex
  exact ⟨⟨oc, od, kV, doc, pm, an, _, ct, osl, e, lk, hcd⟩, F.kp⟩
/-- a def that lets no exception out, by its body; its code object is c -/
theorem FunT.ok {x : Str} {st : Stmt} {f c : Addr} {fd : FuncData} {N ps : List Str} {k : Nat} {sp : Sp} (F : FunT K x st f fd c) (S : FnScope N ps (defScope st)) (len : ∀ vs H Q E, sp vs H Q E → vs.length = ps.length)
    (hbody : ∀ (A : Around) (outer : List Env) (s : Shared) (H : Hp) (vs : List V) (Q : VK) (E : XK), Room k (A.deeper (envOfC x (defScope st) s.heap.objs.size f (.ref c))) → sp vs H Q E →
      ∃ t, PSs (cxOf CX0 P w K mg base N x (defScope st) f (.ref c) A outer s H E).nox (defBody st) t ∧ t { nx := fun _ H' => Q .non H', rt := Q } (start N vs) H) : FnOk P w K mg base CX0 (k + 1) f fd ps sp := by
  obtain ⟨oc, od, kV, doc, pm, an, ct, osl, rfl, lk, hcd⟩ := F.ex
  refine fn_of lk hcd S len fun A outer s H vs Q E hr hsp => ?_
  obtain ⟨t, h, q⟩ := hbody A outer s H vs Q E hr hsp
  exact ⟨t, h.nox, q⟩
end
end Gx
namespace Gx
open PySem PySem.Spec PyProof.Rows L2
/-- a module's constant -/
theorem pe_gcon {X : Cx} {x : Str} {v : V} {pos : Pos} (hg : Gl X x) (h : ∃ u, X.mg x = some u ∧ RelV v u) (hd : (x == ("__debug__" : Str)) = false := by decide) : PE X (.Name x pos) (tC v) := by
  obtain ⟨u, h1, h2⟩ := h
  exact pe_glob hg h1 h2 hd
end Gx
namespace Gx
open PySem PySem.Spec PyProof.Rows L2
theorem ndw {own caps : List Str} (h : (own ++ caps).Nodup) : (own ++ caps).Nodup := h
theorem wk_set {σ' : L2.St} {j : Nat} {x : V} (h : σ'[j]? = some none) : Wk σ' (σ'.set j (some x)) := by
  refine ⟨(List.length_set ..).symm, fun i v e => ?_⟩
  by_cases hj : j = i
  · subst hj; rw [h] at e; cases e
  · rw [List.getElem?_set_ne hj]; exact e
end Gx
set_option Elab.async false
set_option linter.all false
set_option maxRecDepth 100000
set_option maxHeartbeats 2000000
namespace Gx
open PySem PySem.Spec PyProof.Rows L2
/-! ### all and any, by what a turn is worth -/
theorem take_all_succ {α : Type} {l : List α} {p : α → Bool} {i : Nat} {c : α} (h : l[i]? = some c) : (l.take (i + 1)).all p = ((l.take i).all p && p c) := by
  rw [List.take_add_one, h, List.all_append]
  simp
theorem all_false_at {α : Type} {l : List α} {p : α → Bool} {i : Nat} {c : α} (h : l[i]? = some c) (hc : p c = false) : l.all p = false := by
  rw [List.all_eq_false]
  exact ⟨c, List.mem_of_getElem? h, by simp [hc]⟩
theorem take_any_succ {α : Type} {l : List α} {p : α → Bool} {i : Nat} {c : α} (h : l[i]? = some c) : (l.take (i + 1)).any p = ((l.take i).any p || p c) := by
  rw [List.take_add_one, h, List.any_append]
  simp
theorem any_true_at {α : Type} {l : List α} {p : α → Bool} {i : Nat} {c : α} (h : l[i]? = some c) (hc : p c = true) : l.any p = true := by
  rw [List.any_eq_true]
  exact ⟨c, List.mem_of_getElem? h, hc⟩
section
variable {K : PySem.W.Frag} {g : TG} {tt : TT} {te : TE} {σ' : L2.St} {Q : VK} {H : Hp}
theorem gx_all_str {x : Str} (p : Nat → Bool) (hs : ∀ (c : Nat) H' N, Xt H H' → (∀ H2, Xt H H2 → if p c = false then Q (.bl false) H2 else N H2) → gxTurn g tt te σ' false Q (.str ⟨#[c]⟩) H' N) (h : ∀ H', Xt H H' → Q (.bl (x.cps.toList.all p)) H') :
    ∃ (W : Nat → Nat → Hp → Prop) (m : Nat), W 0 m H ∧ gxW (Its x) g tt te σ' false Q W := by
  refine gx_str (fun i H' => Xt H H' ∧ (x.cps.toList.take i).all p = true) ⟨Xt.refl H, rfl⟩ (fun i c H' hc hp => ?_) (fun H' hp => ?_)
  · obtain ⟨xt, hp⟩ := hp
    have hc' : x.cps.toList[i]? = some c := by rw [Array.getElem?_toList]; exact hc
    refine hs c H' _ xt fun H2 x2 => ite2 (fun e => ?_) (fun e => ⟨x2, ?_⟩)
    · have q := h H2 x2
      rw [all_false_at hc' e] at q
      exact q
    · rw [take_all_succ hc', hp, eq_true_of_ne_false e]
      rfl
  · obtain ⟨xt, hp⟩ := hp
    rw [show x.cps.size = x.cps.toList.length from Array.length_toList.symm, List.take_length] at hp
    have q := h H' xt
    rw [hp] at q
    exact q
theorem gx_any_str {x : Str} (p : Nat → Bool) (hs : ∀ (c : Nat) H' N, Xt H H' → (∀ H2, Xt H H2 → if p c = true then Q (.bl true) H2 else N H2) → gxTurn g tt te σ' true Q (.str ⟨#[c]⟩) H' N) (h : ∀ H', Xt H H' → Q (.bl (x.cps.toList.any p)) H') :
    ∃ (W : Nat → Nat → Hp → Prop) (m : Nat), W 0 m H ∧ gxW (Its x) g tt te σ' true Q W := by
  refine gx_str (fun i H' => Xt H H' ∧ (x.cps.toList.take i).any p = false) ⟨Xt.refl H, rfl⟩ (fun i c H' hc hp => ?_) (fun H' hp => ?_)
  · obtain ⟨xt, hp⟩ := hp
    have hc' : x.cps.toList[i]? = some c := by rw [Array.getElem?_toList]; exact hc
    refine hs c H' _ xt fun H2 x2 => ite2 (fun e => ?_) (fun e => ⟨x2, ?_⟩)
    · have q := h H2 x2
      rw [any_true_at hc' e] at q
      exact q
    · rw [take_any_succ hc', hp, eq_false_of_ne_true e]
      rfl
  · obtain ⟨xt, hp⟩ := hp
    rw [show x.cps.size = x.cps.toList.length from Array.length_toList.symm, List.take_length] at hp
    have q := h H' xt
    rw [hp] at q
    exact q
theorem gx_all_list {a : Addr} {xs : List V} (p : V → Bool) (hl : SqL K H a xs) (hs : ∀ v ∈ xs, ∀ H' N, Xt H H' → (∀ H2, Xt H H2 → if p v = false then Q (.bl false) H2 else N H2) → gxTurn g tt te σ' false Q v H' N) (h : ∀ H', Xt H H' → Q (.bl (xs.all p)) H') :
    ∃ (W : Nat → Nat → Hp → Prop) (m : Nat), W 0 m H ∧ gxW (Itl K a) g tt te σ' false Q W := by
  refine gx_list (xs := xs) (fun i H' => Xt H H' ∧ (xs.take i).all p = true) ⟨Xt.refl H, rfl⟩ (fun i H' hp => hp.1.sqL hl) (fun i c H' hc hp => ?_) (fun H' hp => ?_)
  · obtain ⟨xt, hp⟩ := hp
    refine hs c (List.mem_of_getElem? hc) H' _ xt fun H2 x2 => ite2 (fun e => ?_) (fun e => ⟨x2, ?_⟩)
    · have q := h H2 x2
      rw [all_false_at hc e] at q
      exact q
    · rw [take_all_succ hc, hp, eq_true_of_ne_false e]
      rfl
  · obtain ⟨xt, hp⟩ := hp
    rw [List.take_length] at hp
    have q := h H' xt
    rw [hp] at q
    exact q
theorem gx_any_list {a : Addr} {xs : List V} (p : V → Bool) (hl : SqL K H a xs) (hs : ∀ v ∈ xs, ∀ H' N, Xt H H' → (∀ H2, Xt H H2 → if p v = true then Q (.bl true) H2 else N H2) → gxTurn g tt te σ' true Q v H' N) (h : ∀ H', Xt H H' → Q (.bl (xs.any p)) H') :
    ∃ (W : Nat → Nat → Hp → Prop) (m : Nat), W 0 m H ∧ gxW (Itl K a) g tt te σ' true Q W := by
  refine gx_list (xs := xs) (fun i H' => Xt H H' ∧ (xs.take i).any p = false) ⟨Xt.refl H, rfl⟩ (fun i H' hp => hp.1.sqL hl) (fun i c H' hc hp => ?_) (fun H' hp => ?_)
  · obtain ⟨xt, hp⟩ := hp
    refine hs c (List.mem_of_getElem? hc) H' _ xt fun H2 x2 => ite2 (fun e => ?_) (fun e => ⟨x2, ?_⟩)
    · have q := h H2 x2
      rw [any_true_at hc e] at q
      exact q
    · rw [take_any_succ hc, hp, eq_false_of_ne_true e]
      rfl
  · obtain ⟨xt, hp⟩ := hp
    rw [List.take_length] at hp
    have q := h H' xt
    rw [hp] at q
    exact q
theorem gx_all_tup {a : Addr} {xs : List V} (p : V → Bool) (hl : SqT K H a xs) (hs : ∀ v ∈ xs, ∀ H' N, Xt H H' → (∀ H2, Xt H H2 → if p v = false then Q (.bl false) H2 else N H2) → gxTurn g tt te σ' false Q v H' N) (h : ∀ H', Xt H H' → Q (.bl (xs.all p)) H') :
    ∃ (W : Nat → Nat → Hp → Prop) (m : Nat), W 0 m H ∧ gxW (Itt K a) g tt te σ' false Q W := by
  refine gx_tup (xs := xs) (fun i H' => Xt H H' ∧ (xs.take i).all p = true) ⟨Xt.refl H, rfl⟩ (fun i H' hp => hp.1.sqT hl) (fun i c H' hc hp => ?_) (fun H' hp => ?_)
  · obtain ⟨xt, hp⟩ := hp
    refine hs c (List.mem_of_getElem? hc) H' _ xt fun H2 x2 => ite2 (fun e => ?_) (fun e => ⟨x2, ?_⟩)
    · have q := h H2 x2
      rw [all_false_at hc e] at q
      exact q
    · rw [take_all_succ hc, hp, eq_true_of_ne_false e]
      rfl
  · obtain ⟨xt, hp⟩ := hp
    rw [List.take_length] at hp
    have q := h H' xt
    rw [hp] at q
    exact q
theorem gx_any_tup {a : Addr} {xs : List V} (p : V → Bool) (hl : SqT K H a xs) (hs : ∀ v ∈ xs, ∀ H' N, Xt H H' → (∀ H2, Xt H H2 → if p v = true then Q (.bl true) H2 else N H2) → gxTurn g tt te σ' true Q v H' N) (h : ∀ H', Xt H H' → Q (.bl (xs.any p)) H') :
    ∃ (W : Nat → Nat → Hp → Prop) (m : Nat), W 0 m H ∧ gxW (Itt K a) g tt te σ' true Q W := by
  refine gx_tup (xs := xs) (fun i H' => Xt H H' ∧ (xs.take i).any p = false) ⟨Xt.refl H, rfl⟩ (fun i H' hp => hp.1.sqT hl) (fun i c H' hc hp => ?_) (fun H' hp => ?_)
  · obtain ⟨xt, hp⟩ := hp
    refine hs c (List.mem_of_getElem? hc) H' _ xt fun H2 x2 => ite2 (fun e => ?_) (fun e => ⟨x2, ?_⟩)
    · have q := h H2 x2
      rw [any_true_at hc e] at q
      exact q
    · rw [take_any_succ hc, hp, eq_false_of_ne_true e]
      rfl
  · obtain ⟨xt, hp⟩ := hp
    rw [List.take_length] at hp
    have q := h H' xt
    rw [hp] at q
    exact q
end
/-! ### comprehensions that filter and map, nothing else changed -/
section
variable {K : PySem.W.Frag} {g : TG} {tt : TT} {te : TE}
theorem lcf_str {vs : List Nat} {σ : L2.St} {H1 : Hp} {D : Addr} {Qd : Hp → Prop} {x : Str} (p : Nat → Bool) (f : Nat → V) (hD : H1 D = none) (hz : x.cps.toList.length ≤ sizeLine)
    (hs : ∀ v ∈ x.cps.toList, ∀ H' (Y : V → Hp → Prop) (N : Hp → Prop), Xt H1 H' → (∀ H2, Xt H' H2 → p v = true → Y (f v) H2) → (∀ H2, Xt H' H2 → p v = false → N H2) →
      g (.str ⟨#[v]⟩) (wipe σ vs) H' fun σ2 H2 => wipe σ2 vs = wipe σ vs ∧ tt σ2 H2 fun b H3 => if b = true then te σ2 H3 Y else N H3)
    (hd : ∀ H', Xt H1 H' → H' D = some (.lst ((x.cps.toList.filter p).map f)) → Qd H') :
    ∃ W : Nat → Nat → Hp → Prop, (∃ m, W 0 m (upd H1 D (.lst []))) ∧ ∀ i m H, W i m H →
      ((Its x).stop i H ∧ Qd H) ∨ ((Its x).go i H ∧ ∃ Nx : Hp → Prop, (∀ H', Nx H' → ∃ m', m' < m ∧ W (i + 1) m' H') ∧ ∀ v H', (Its x).yld i H v H' → g v (wipe σ vs) H' fun σ2 H2 => wipe σ2 vs = wipe σ vs ∧ tt σ2 H2 fun b H3 =>
        if b = true then te σ2 H3 fun y H4 => ∃ acc, H4 D = some (.lst acc) ∧ acc.length < sizeLine ∧ Nx (upd H4 D (.lst (acc ++ [y]))) else Nx H3) := by
  refine lc_str (fun i H' => Xt H1 H' ∧ H' D = some (.lst ((((x.cps.toList).take i).filter p).map f))) ⟨Xt.new hD, upd_same ..⟩ (fun i c H' hc hp => ?_) (fun H' hp => hd H' hp.1 ?_)
  · obtain ⟨xt, hp⟩ := hp
    have hc' : (x.cps.toList)[i]? = some c := by rw [Array.getElem?_toList]; exact hc
    have hi : i < (x.cps.toList).length := (List.getElem?_eq_some_iff.mp hc').1
    refine hs c (List.mem_of_getElem? hc') H' _ _ xt (fun H2 x2 e => ⟨_, x2.lst hp, ?_, (xt.trans x2).mut hD, ?_⟩) (fun H2 x2 e => ⟨xt.trans x2, ?_⟩)
    · rw [List.length_map]
      exact Nat.lt_of_le_of_lt (Nat.le_trans (List.length_filter_le ..) (by rw [List.length_take]; exact Nat.min_le_left ..)) (Nat.lt_of_lt_of_le hi hz)
    · rw [upd_same, List.take_add_one, hc', List.filter_append, List.map_append]
      show _ = some (HO.lst (_ ++ ([c].filter p).map f))
      rw [List.filter_cons, if_pos e]
      rfl
    · rw [x2.lst hp, List.take_add_one, hc', List.filter_append, List.map_append]
      show _ = some (HO.lst (_ ++ ([c].filter p).map f))
      rw [List.filter_cons, if_neg (by rw [e]; exact Bool.false_ne_true)]
      show _ = some (HO.lst (_ ++ []))
      rw [List.append_nil]
  · have h2 := hp.2
    rw [show x.cps.size = x.cps.toList.length from Array.length_toList.symm, List.take_length] at h2
    exact h2
theorem lcf_list {vs : List Nat} {σ : L2.St} {H1 : Hp} {D : Addr} {Qd : Hp → Prop} {a : Addr} {xs : List V} (p : V → Bool) (f : V → V) (hl : SqL K H1 a xs) (hD : H1 D = none) (hz : xs.length ≤ sizeLine)
    (hs : ∀ v ∈ xs, ∀ H' (Y : V → Hp → Prop) (N : Hp → Prop), Xt H1 H' → (∀ H2, Xt H' H2 → p v = true → Y (f v) H2) → (∀ H2, Xt H' H2 → p v = false → N H2) →
      g v (wipe σ vs) H' fun σ2 H2 => wipe σ2 vs = wipe σ vs ∧ tt σ2 H2 fun b H3 => if b = true then te σ2 H3 Y else N H3)
    (hd : ∀ H', Xt H1 H' → H' D = some (.lst ((xs.filter p).map f)) → Qd H') :
    ∃ W : Nat → Nat → Hp → Prop, (∃ m, W 0 m (upd H1 D (.lst []))) ∧ ∀ i m H, W i m H →
      ((Itl K a).stop i H ∧ Qd H) ∨ ((Itl K a).go i H ∧ ∃ Nx : Hp → Prop, (∀ H', Nx H' → ∃ m', m' < m ∧ W (i + 1) m' H') ∧ ∀ v H', (Itl K a).yld i H v H' → g v (wipe σ vs) H' fun σ2 H2 => wipe σ2 vs = wipe σ vs ∧ tt σ2 H2 fun b H3 =>
        if b = true then te σ2 H3 fun y H4 => ∃ acc, H4 D = some (.lst acc) ∧ acc.length < sizeLine ∧ Nx (upd H4 D (.lst (acc ++ [y]))) else Nx H3) := by
  refine lc_list (fun i H' => Xt H1 H' ∧ H' D = some (.lst ((((xs).take i).filter p).map f))) ⟨Xt.new hD, upd_same ..⟩ (fun i H' _ hp => hp.1.sqL hl) (fun i c H' hc hp => ?_) (fun H' hp => hd H' hp.1 ?_)
  · obtain ⟨xt, hp⟩ := hp
    have hc' : (xs)[i]? = some c := hc
    have hi : i < (xs).length := (List.getElem?_eq_some_iff.mp hc').1
    refine hs c (List.mem_of_getElem? hc') H' _ _ xt (fun H2 x2 e => ⟨_, x2.lst hp, ?_, (xt.trans x2).mut hD, ?_⟩) (fun H2 x2 e => ⟨xt.trans x2, ?_⟩)
    · rw [List.length_map]
      exact Nat.lt_of_le_of_lt (Nat.le_trans (List.length_filter_le ..) (by rw [List.length_take]; exact Nat.min_le_left ..)) (Nat.lt_of_lt_of_le hi hz)
    · rw [upd_same, List.take_add_one, hc', List.filter_append, List.map_append]
      show _ = some (HO.lst (_ ++ ([c].filter p).map f))
      rw [List.filter_cons, if_pos e]
      rfl
    · rw [x2.lst hp, List.take_add_one, hc', List.filter_append, List.map_append]
      show _ = some (HO.lst (_ ++ ([c].filter p).map f))
      rw [List.filter_cons, if_neg (by rw [e]; exact Bool.false_ne_true)]
      show _ = some (HO.lst (_ ++ []))
      rw [List.append_nil]
  · have h2 := hp.2
    rw [List.take_length] at h2
    exact h2
theorem lcf_tup {vs : List Nat} {σ : L2.St} {H1 : Hp} {D : Addr} {Qd : Hp → Prop} {a : Addr} {xs : List V} (p : V → Bool) (f : V → V) (hl : SqT K H1 a xs) (hD : H1 D = none) (hz : xs.length ≤ sizeLine)
    (hs : ∀ v ∈ xs, ∀ H' (Y : V → Hp → Prop) (N : Hp → Prop), Xt H1 H' → (∀ H2, Xt H' H2 → p v = true → Y (f v) H2) → (∀ H2, Xt H' H2 → p v = false → N H2) →
      g v (wipe σ vs) H' fun σ2 H2 => wipe σ2 vs = wipe σ vs ∧ tt σ2 H2 fun b H3 => if b = true then te σ2 H3 Y else N H3)
    (hd : ∀ H', Xt H1 H' → H' D = some (.lst ((xs.filter p).map f)) → Qd H') :
    ∃ W : Nat → Nat → Hp → Prop, (∃ m, W 0 m (upd H1 D (.lst []))) ∧ ∀ i m H, W i m H →
      ((Itt K a).stop i H ∧ Qd H) ∨ ((Itt K a).go i H ∧ ∃ Nx : Hp → Prop, (∀ H', Nx H' → ∃ m', m' < m ∧ W (i + 1) m' H') ∧ ∀ v H', (Itt K a).yld i H v H' → g v (wipe σ vs) H' fun σ2 H2 => wipe σ2 vs = wipe σ vs ∧ tt σ2 H2 fun b H3 =>
        if b = true then te σ2 H3 fun y H4 => ∃ acc, H4 D = some (.lst acc) ∧ acc.length < sizeLine ∧ Nx (upd H4 D (.lst (acc ++ [y]))) else Nx H3) := by
  refine lc_tup (fun i H' => Xt H1 H' ∧ H' D = some (.lst ((((xs).take i).filter p).map f))) ⟨Xt.new hD, upd_same ..⟩ (fun i H' _ hp => hp.1.sqT hl) (fun i c H' hc hp => ?_) (fun H' hp => hd H' hp.1 ?_)
  · obtain ⟨xt, hp⟩ := hp
    have hc' : (xs)[i]? = some c := hc
    have hi : i < (xs).length := (List.getElem?_eq_some_iff.mp hc').1
    refine hs c (List.mem_of_getElem? hc') H' _ _ xt (fun H2 x2 e => ⟨_, x2.lst hp, ?_, (xt.trans x2).mut hD, ?_⟩) (fun H2 x2 e => ⟨xt.trans x2, ?_⟩)
    · rw [List.length_map]
      exact Nat.lt_of_le_of_lt (Nat.le_trans (List.length_filter_le ..) (by rw [List.length_take]; exact Nat.min_le_left ..)) (Nat.lt_of_lt_of_le hi hz)
    · rw [upd_same, List.take_add_one, hc', List.filter_append, List.map_append]
      show _ = some (HO.lst (_ ++ ([c].filter p).map f))
      rw [List.filter_cons, if_pos e]
      rfl
    · rw [x2.lst hp, List.take_add_one, hc', List.filter_append, List.map_append]
      show _ = some (HO.lst (_ ++ ([c].filter p).map f))
      rw [List.filter_cons, if_neg (by rw [e]; exact Bool.false_ne_true)]
      show _ = some (HO.lst (_ ++ []))
      rw [List.append_nil]
  · have h2 := hp.2
    rw [List.take_length] at h2
    exact h2
end
/-! ### data stays data -/
mutual
theorem Dp.xt {K : PySem.W.Frag} {H H' : Hp} (x : Xt H H') : ∀ (d : PyData) (v : V), Dp K H v d → Dp K H' v d
  | .none, _, h => by cases h; exact .non
  | .bool b, _, h => by cases h; exact .bl b
  | .int i, _, h => by cases h; exact .int i
  | .str s, _, h => by cases h; exact .str s
  | .list ds, _, h => by
    cases h with
    | lst hs ha => exact .lst (x.sqL hs) (Dp.xts x ds _ ha)
  | .tuple ds, _, h => by
    cases h with
    | tup hs ha => exact .tup (x.sqT hs) (Dp.xts x ds _ ha)
  | .dict _, _, h => by cases h
theorem Dp.xts {K : PySem.W.Frag} {H H' : Hp} (x : Xt H H') : ∀ (ds : List PyData) (vs : List V), DpAll K H vs ds → DpAll K H' vs ds
  | [], _, h => by cases h; exact .nil
  | d :: ds, _, h => by
    cases h with
    | cons h1 h2 => exact .cons (Dp.xt x d _ h1) (Dp.xts x ds _ h2)
end
theorem dp_strs {K : PySem.W.Frag} {H : Hp} : ∀ l : List Str, DpAll K H (l.map V.str) (l.map PyData.str)
  | [] => .nil
  | x :: l => .cons (.str x) (dp_strs l)
theorem shp_all : ∀ ds : List PyData, (∀ d ∈ ds, d.canLay0 = true ∧ d.depth ≤ 8) → PyData.canLayAll0 ds = true ∧ PyData.depthAll ds ≤ 8
  | [], _ => ⟨rfl, Nat.zero_le _⟩
  | d :: ds, h => by
    obtain ⟨h1, h2⟩ := h d (List.mem_cons_self ..)
    obtain ⟨h3, h4⟩ := shp_all ds fun z hz => h z (List.mem_cons_of_mem _ hz)
    refine ⟨?_, ?_⟩
    · show (PyData.canLay0 d && PyData.canLayAll0 ds) = true
      rw [h1, h3]; rfl
    · show max (PyData.depth d) (PyData.depthAll ds) ≤ 8
      exact Nat.max_le.mpr ⟨h2, h4⟩
theorem shp_list {ds : List PyData} (h : ∀ d ∈ ds, d.canLay0 = true ∧ d.depth ≤ 8) : SeqAt.shaped (.list ds) = true := by
  obtain ⟨h1, h2⟩ := shp_all ds h
  show (PyData.canLayAll0 ds && decide (PyData.depthAll ds + 1 ≤ 64)) = true
  rw [h1, decide_eq_true (by omega)]; rfl
/-- a raising way that cannot be -/
theorem tk_dead {X : Cx} : Takes X (fun _ _ _ _ => False) := fun u s' ⟨a, B, sI, pins, σ, H, cls, d, e, I, nb, up, sky, na, os, ag, w⟩ => w.elim
theorem shp_nil : SeqAt.shaped (.list []) = true := by decide
end Gx
set_option Elab.async false
set_option linter.all false
set_option maxRecDepth 100000
set_option maxHeartbeats 2000000
namespace Gx
open PySem PySem.Spec PyProof.Rows L2
/-! ### a list of ints that is drawn from -/
def Dr (H : Hp) (d : Addr) : Prop := ∃ ns : List Int, H d = some (.lst (ns.map V.int))
/-- all stays but the list of draws, which stays one -/
structure Xd (d : Addr) (H H' : Hp) : Prop where
  dr : Dr H' d
  keep : ∀ b o, b ≠ d → H b = some o → (∀ ps, o ≠ .tbl ps) → H' b = some o
  tab : ∀ P ps, H P = some (.tbl ps) → ∃ ps', H' P = some (.tbl ps') ∧ (TriplesOk ps.toList → TriplesOk ps'.toList)
theorem Dr.xt {H H' : Hp} {d : Addr} (h : Dr H d) (x : Xt H H') : Dr H' d := by
  obtain ⟨ns, e⟩ := h
  exact ⟨ns, x.lst e⟩
theorem Xd.refl {H : Hp} {d : Addr} (h : Dr H d) : Xd d H H := ⟨h, fun _ _ _ e _ => e, fun P ps e => ⟨ps, e, id⟩⟩
theorem Xt.xd {H H' : Hp} {d : Addr} (x : Xt H H') (h : Dr H d) : Xd d H H' := ⟨h.xt x, fun b o _ e n => x.keep b o e n, x.tab⟩
theorem Xd.trans {H H1 H2 : Hp} {d : Addr} (a : Xd d H H1) (b : Xd d H1 H2) : Xd d H H2 := ⟨b.dr, fun c o hc h n => b.keep c o hc (a.keep c o hc h n) n, fun P ps h => by
  obtain ⟨p1, e1, f1⟩ := a.tab P ps h
  obtain ⟨p2, e2, f2⟩ := b.tab P p1 e1
  exact ⟨p2, e2, fun z => f2 (f1 z)⟩⟩
theorem Xd.xt {H H1 H2 : Hp} {d : Addr} (a : Xd d H H1) (b : Xt H1 H2) : Xd d H H2 := a.trans (b.xd a.dr)
theorem Xd.lst {H H' : Hp} {d a : Addr} {xs : List V} (x : Xd d H H') (hd : a ≠ d) (h : H a = some (.lst xs)) : H' a = some (.lst xs) := x.keep a _ hd h fun _ => nofun
theorem Xd.tup {H H' : Hp} {d a : Addr} {xs : List V} (x : Xd d H H') (hd : a ≠ d) (h : H a = some (.tup xs)) : H' a = some (.tup xs) := x.keep a _ hd h fun _ => nofun
theorem Xd.tabG {H H' : Hp} {d P : Addr} (x : Xd d H H') (h : GxR.TabG H P) : GxR.TabG H' P := by
  obtain ⟨ps, e, t⟩ := h
  obtain ⟨ps', e', f⟩ := x.tab P ps e
  exact ⟨ps', e', f t⟩
theorem Dr.ne_none {H : Hp} {d p : Addr} (h : Dr H d) (hp : H p = none) : d ≠ p := fun z => by
  obtain ⟨ns, e⟩ := h
  rw [z, hp] at e; cases e
theorem Xd.free {H H' : Hp} {d a : Addr} (x : Xd d H H') (h : H' a = none) : H a = none := by
  have ha : a ≠ d := fun z => x.dr.ne_none h z.symm
  cases q : H a with
  | none => rfl
  | some o =>
    by_cases ht : ∃ ps, o = .tbl ps
    · obtain ⟨ps, rfl⟩ := ht
      obtain ⟨ps', e', _⟩ := x.tab a ps q
      rw [h] at e'; cases e'
    · rw [x.keep a o ha q (fun ps e => ht ⟨ps, e⟩)] at h; cases h
/-- an object that H does not know may change -/
theorem Xd.mut {H H' : Hp} {d p : Addr} {o : HO} (x : Xd d H H') (hd : d ≠ p) (h : H p = none) : Xd d H (upd H' p o) := ⟨by
  obtain ⟨ns, e⟩ := x.dr
  exact ⟨ns, by rw [upd_ne hd]; exact e⟩, fun a u ha e n => by
  rw [upd_ne (ne_of_none e h)]
  exact x.keep a u ha e n, fun P ps hP => by
  rw [upd_ne (ne_of_none hP h)]
  exact x.tab P ps hP⟩
theorem Xd.draw {H : Hp} {d : Addr} {ns : List Int} (h : Dr H d) : Xd d H (upd H d (.lst (ns.map V.int))) := ⟨⟨ns, upd_same ..⟩, fun b o hb e _ => by rw [upd_ne hb]; exact e, fun P ps e => ⟨ps, (by
  obtain ⟨ms, e2⟩ := h
  rw [upd_ne (fun z => by rw [z, e2] at e; cases e)]
  exact e), id⟩⟩
/-! ### promises of the draws -/
def spTake : Sp := fun vs H Q _ => ∃ (d : Addr) (b : Int), vs = [.ref d, .int b] ∧ 0 < b ∧ Dr H d ∧ ∀ H1 r, Xd d H H1 → 0 ≤ r → r < b → Q (.int r) H1
def spPick : Sp := fun vs H Q _ => ∃ (d q : Addr) (xs : List V), vs = [.ref d, .ref q] ∧ q ≠ d ∧ xs ≠ [] ∧ Dr H d ∧ H q = some (.lst xs) ∧ ∀ H1 v, Xd d H H1 → v ∈ xs → Q v H1
def spDraws (K : PySem.W.Frag) : Sp := fun vs H Q _ => ∃ (q : Addr) (ns : List Int), vs = [.ref q] ∧ SqL K H q (ns.map V.int) ∧ ns.length ≤ 1000 ∧ ∀ H1 r, Xt H H1 → H r = none → Dr H1 r → Q (.ref r) H1
/-! ### what the laws' own comparison asks -/
def leafV : V → Bool
  | .non => true
  | .bl _ => true
  | .int _ => true
  | .str _ => true
  | _ => false
def SameD (H : Hp) : Nat → V → V → Prop
  | 0, v, d => leafV v = true ∧ v = d
  | n + 1, v, d => (leafV v = true ∧ v = d) ∨ ∃ (a b : Addr) (xs ys : List V), v = .ref a ∧ d = .ref b ∧ ((H a = some (.tup xs) ∧ H b = some (.tup ys)) ∨ (H a = some (.lst xs) ∧ H b = some (.lst ys))) ∧
      xs.length = ys.length ∧ xs.length ≤ 1000000 ∧ ∀ (i : Nat) (x y : V), xs[i]? = some x → ys[i]? = some y → SameD H n x y
theorem SameD.leaf {H : Hp} {v : V} (h : leafV v = true) : ∀ n, SameD H n v v
  | 0 => ⟨h, rfl⟩
  | _ + 1 => .inl ⟨h, rfl⟩
theorem SameD.xt {H H' : Hp} (x : Xt H H') : ∀ (n : Nat) (v d : V), SameD H n v d → SameD H' n v d
  | 0, _, _, h => h
  | n + 1, v, d, h => by
    rcases h with h | ⟨a, b, xs, ys, rfl, rfl, ho, hl, hz, hi⟩
    · exact .inl h
    · refine .inr ⟨a, b, xs, ys, rfl, rfl, ?_, hl, hz, fun i u w e1 e2 => SameD.xt x n u w (hi i u w e1 e2)⟩
      rcases ho with ⟨h1, h2⟩ | ⟨h1, h2⟩
      · exact .inl ⟨x.tup h1, x.tup h2⟩
      · exact .inr ⟨x.lst h1, x.lst h2⟩
theorem SameD.two {H : Hp} {n : Nat} {v d : V} (h : SameD H n v d) : (leafV v = true ∧ v = d) ∨ ∃ m, n = m + 1 ∧ ∃ (a b : Addr) (xs ys : List V), v = .ref a ∧ d = .ref b ∧ ((H a = some (.tup xs) ∧ H b = some (.tup ys)) ∨ (H a = some (.lst xs) ∧ H b = some (.lst ys))) ∧
      xs.length = ys.length ∧ xs.length ≤ 1000000 ∧ ∀ (i : Nat) (x y : V), xs[i]? = some x → ys[i]? = some y → SameD H m x y := by
  cases n with
  | zero => exact .inl h
  | succ m =>
    rcases h with h | h
    · exact .inl h
    · exact .inr ⟨m, rfl, h⟩
def spSame (n : Nat) : Sp := fun vs H Q _ => ∃ v d, vs = [v, d] ∧ SameD H n v d ∧ ∀ H1, Xt H H1 → Q (.bl true) H1
/-- the name of a plain value's type -/
def tyN : V → String
  | .non => "NoneType"
  | .bl _ => "bool"
  | .int _ => "int"
  | _ => "str"
theorem leaf_ty {K : PySem.W.Frag} {H : Hp} {v : V} (h : leafV v = true) : TyX K H v (.type (tyN v)) := by
  cases v <;> first | exact Bool.noConfusion h | exact .base (by constructor)
def isB (v : V) (c : String) : Bool := (kitB (tyN v) c).getD false
theorem kits : ∀ t ∈ ["NoneType", "bool", "int", "str"], ∀ c ∈ ["tuple", "list", "bool", "int", "str"], kitB t c = some ((kitB t c).getD false) := by decide +kernel
theorem kits0 : ∀ t ∈ ["NoneType", "bool", "int", "str"], (kitB t "tuple").getD false = false ∧ (kitB t "list").getD false = false := by decide +kernel
theorem tyN_mem (v : V) : tyN v ∈ ["NoneType", "bool", "int", "str"] := by
  cases v <;> (unfold tyN; simp)
theorem leaf_kit {v : V} {c : String} (hc : c ∈ ["tuple", "list", "bool", "int", "str"]) : kitB (tyN v) c = some (isB v c) := kits _ (tyN_mem v) c hc
theorem leaf_seq (v : V) : isB v "tuple" = false ∧ isB v "list" = false := kits0 _ (tyN_mem v)
theorem kit_tt : kitB "tuple" "tuple" = some true := by decide +kernel
theorem kit_tl : kitB "tuple" "list" = some false := by decide +kernel
theorem kit_ll : kitB "list" "list" = some true := by decide +kernel
theorem kit_lt : kitB "list" "tuple" = some false := by decide +kernel
theorem rd_is {K : PySem.W.Frag} {σ : L2.St} {H : Hp} {v : V} {i : Nat} {t c : String} {b : Bool} {Q : VK} (hi : σ[i]? = some (some v)) (ht : TyX K H v (.type t)) (hb : kitB t c = some b) (q : Q (.bl b) H) :
    tCB (rIsi K) (tCons (tVar i) (tCons (tC (.ty c)) tNil)) σ H Q := ⟨v, hi, v, .ty c, .type t, .type c, b, rfl, .ty c, ht, kit_ty hb, q⟩
/-- isinstance of one is as of the other -/
theorem rd_ne {K : PySem.W.Frag} {σ : L2.St} {H : Hp} {v u : V} {i j : Nat} {t c : String} {b : Bool} {Q : Bool → Hp → Prop} (hi : σ[i]? = some (some v)) (ht : TyX K H v (.type t)) (hj : σ[j]? = some (some u)) (hu : TyX K H u (.type t)) (hb : kitB t c = some b) (q : Q false H) :
    tTest (tOp rNe (tCB (rIsi K) (tCons (tVar i) (tCons (tC (.ty c)) tNil))) (tCB (rIsi K) (tCons (tVar j) (tCons (tC (.ty c)) tNil)))) σ H Q := by
  refine rd_is hi ht hb (rd_is hj hu hb ⟨rfl, _, rfl, ?_⟩)
  rw [decide_eq_true rfl]
  exact q
theorem rd_or {K : PySem.W.Frag} {σ : L2.St} {H : Hp} {v : V} {i : Nat} {t c c' : String} {b b' : Bool} {Q : Bool → Hp → Prop} (hi : σ[i]? = some (some v)) (ht : TyX K H v (.type t)) (hb : kitB t c = some b) (hb' : kitB t c' = some b') (ho : (b || b') = true) (q : Q true H) :
    tOr (tB (tCB (rIsi K) (tCons (tVar i) (tCons (tC (.ty c)) tNil)))) (tB (tCB (rIsi K) (tCons (tVar i) (tCons (tC (.ty c')) tNil)))) σ H Q := by
  refine rd_is hi ht hb ⟨_, rfl, ite2 (fun _ => q) (fun e => rd_is hi ht hb' ⟨_, rfl, ?_⟩)⟩
  rw [eq_false_of_ne_true e, Bool.false_or] at ho
  rw [ho]
  exact q
theorem rd_ix {K : PySem.W.Frag} {H : Hp} {a : Addr} {xs : List V} {x : V} {i : Int} {Q : VK} (h : H a = some (.tup xs) ∨ H a = some (.lst xs)) (hx : atI xs i = some x) (q : Q x H) : rIx K (.ref a) (.int i) H Q := by
  rcases h with h | h
  · exact .inr (.inl ⟨a, xs, i, x, rfl, rfl, .inl (.inl h), hx, q⟩)
  · exact .inl ⟨a, xs, i, x, rfl, rfl, .inl (.inl h), hx, q⟩
theorem Xt.seq {H H' : Hp} (x : Xt H H') {a : Addr} {xs : List V} (h : H a = some (.tup xs) ∨ H a = some (.lst xs)) : H' a = some (.tup xs) ∨ H' a = some (.lst xs) := by
  rcases h with h | h
  · exact .inl (x.tup h)
  · exact .inr (x.lst h)
theorem seq_sq {K : PySem.W.Frag} {H : Hp} {a : Addr} {xs : List V} (h : H a = some (.tup xs) ∨ H a = some (.lst xs)) : SqL K H a xs ∨ SqT K H a xs := by
  rcases h with h | h
  · exact .inr (.inl (.inl h))
  · exact .inl (.inl (.inl h))
end Gx
namespace Gx
open PySem PySem.Spec PyProof.Rows L2
/-! ### a list made of draws -/
theorem lcd_range {d : Addr} {lo : Int} {m : Nat} {g : TG} {tt : TT} {te : TE} {vs : List Nat} {σ : L2.St} {H1 : Hp} {D : Addr} {Qd : Hp → Prop} (P : V → Prop) (hd : Dr H1 d) (hD : H1 D = none) (hm : m ≤ sizeLine)
    (hs : ∀ (i : Nat) H' (Y : V → Hp → Prop) (N : Hp → Prop), i < m → Xd d H1 H' → (∀ H2 v, Xd d H' H2 → P v → Y v H2) →
      g (.int (lo + i)) (wipe σ vs) H' fun σ2 H2 => wipe σ2 vs = wipe σ vs ∧ tt σ2 H2 fun b H3 => if b = true then te σ2 H3 Y else N H3)
    (hq : ∀ H' ys, Xd d H1 H' → H' D = some (.lst ys) → ys.length = m → (∀ v ∈ ys, P v) → Qd H') :
    ∃ W : Nat → Nat → Hp → Prop, (∃ m, W 0 m (upd H1 D (.lst []))) ∧ ∀ i m' H, W i m' H →
      ((Itr lo m).stop i H ∧ Qd H) ∨ ((Itr lo m).go i H ∧ ∃ Nx : Hp → Prop, (∀ H', Nx H' → ∃ m'', m'' < m' ∧ W (i + 1) m'' H') ∧ ∀ v H', (Itr lo m).yld i H v H' → g v (wipe σ vs) H' fun σ2 H2 => wipe σ2 vs = wipe σ vs ∧ tt σ2 H2 fun b H3 =>
        if b = true then te σ2 H3 fun y H4 => ∃ acc, H4 D = some (.lst acc) ∧ acc.length < sizeLine ∧ Nx (upd H4 D (.lst (acc ++ [y]))) else Nx H3) := by
  have hdD : d ≠ D := hd.ne_none hD
  have hDd : D ≠ d := fun z => hdD z.symm
  refine lc_range (fun i H' => Xd d H1 H' ∧ ∃ ys : List V, H' D = some (.lst ys) ∧ ys.length = i ∧ ∀ v ∈ ys, P v) ⟨(Xd.refl hd).mut hdD hD, [], upd_same .., rfl, fun v hv => by cases hv⟩ (fun i H' hi hp => ?_) (fun H' hp => ?_)
  · obtain ⟨xd, ys, e, hl, hp⟩ := hp
    refine hs i H' _ _ hi xd fun H2 v x2 hv => ⟨ys, x2.lst hDd e, by omega, (xd.trans x2).mut hdD hD, ys ++ [v], upd_same .., by rw [List.length_append, hl]; rfl, fun u hu => ?_⟩
    rcases List.mem_append.mp hu with hu | hu
    · exact hp u hu
    · rw [List.mem_singleton.mp hu]; exact hv
  · obtain ⟨xd, ys, e, hl, hp⟩ := hp
    exact hq H' ys xd e hl hp
end Gx
set_option Elab.async false
set_option linter.all false
set_option maxRecDepth 100000
set_option maxHeartbeats 2000000
namespace Gx
open PySem PySem.Spec PyProof.Rows L2
/-! ### rules with the written part said apart -/
section
variable {X : Cx} {K : PySem.W.Frag}
theorem ix_listK (h : X.K = K) : IxR X (rIxL K) := by subst h; exact ix_list
theorem ix_tupK (h : X.K = K) : IxR X (rIxT K) := by subst h; exact ix_tup
theorem ix_seqK (h : X.K = K) : IxR X (rIx K) := by subst h; exact ix_seq
theorem sl_listK (h : X.K = K) : SlR X (rSlL K) := by subst h; exact sl_list
theorem sl_tupK (h : X.K = K) : SlR X (rSlT K) := by subst h; exact sl_tup
theorem op_catTK (h : X.K = K) : OpR X (binaryOp .Add) (rCatT K) := by subst h; exact op_catT
theorem op_in_seqK (h : X.K = K) : OpR X (compareOp .In) (rIn K false) := by subst h; exact op_in_seq
theorem op_notIn_seqK (h : X.K = K) : OpR X (compareOp .NotIn) (rIn K true) := by subst h; exact op_notIn_seq
theorem op_eqDK (h : X.K = K) (hu : X.A.units + 64 < cLine) : OpR X (compareOp .Eq) (rEqD K) := by subst h; exact op_eqD hu
theorem op_neDK (h : X.K = K) (hu : X.A.units + 64 < cLine) : OpR X (compareOp .NotEq) (rNeD K) := by subst h; exact op_neD hu
def rLenK (K : PySem.W.Frag) : List V → Hp → VK → Prop := fun xs H Q => ∃ p ys, xs = [.ref p] ∧ (SqL K H p ys ∨ SqT K H p ys) ∧ Q (.int ys.length) H
def rListK (K : PySem.W.Frag) : List V → Hp → VK → Prop := fun xs H Q => ∃ p ys, xs = [.ref p] ∧ (SqL K H p ys ∨ SqT K H p ys) ∧ ∀ l, H l = none → Q (.ref l) (upd H l (.lst ys))
def rTupK (K : PySem.W.Frag) : List V → Hp → VK → Prop := fun xs H Q => ∃ p ys, xs = [.ref p] ∧ ((SqL K H p ys ∧ ∀ l, H l = none → Q (.ref l) (upd H l (.tup ys))) ∨ (SqT K H p ys ∧ Q (.ref p) H))
theorem call_len_seqK (h : X.K = K) : CallR X (.builtin "len") (rLenK K) := by subst h; exact call_len_seq
theorem call_list_ofK (h : X.K = K) : CallR X (.type "list") (rListK K) := by subst h; exact call_list_of
theorem call_tuple_ofK (h : X.K = K) : CallR X (.type "tuple") (rTupK K) := by subst h; exact call_tuple_of
theorem call_isiK' (h : X.K = K) : CallR X (.builtin "isinstance") (rIsi K) := by subst h; exact call_isi
theorem cr_maxK (h : X.K = K) (hc : X.calm = true) : CallR X (.builtin "max") (rMax K) := by subst h; exact cr_max hc
theorem cr_minK (h : X.K = K) (hc : X.calm = true) : CallR X (.builtin "min") (rMin K) := by subst h; exact cr_min hc
variable {tg : Expr}
theorem pi_listK {l : Expr} {tl : TE} (h : X.K = K) (hl : PE X l tl) : PI X tg l (iList K tl) := by subst h; exact pi_list hl
theorem pi_tupK {l : Expr} {tl : TE} (h : X.K = K) (hl : PE X l tl) : PI X tg l (iTup K tl) := by subst h; exact pi_tup hl
theorem pg_tupK {es : List Expr} {k : Nat} {t : TGs} {n : Nat} {pos : Pos} (h : X.K = K) (hc : X.calm = true) (hp : PGs X es t)
    (hn : (assignEach es X.env).length = n := by rfl) (hst : (assignEach es X.env).findIdx? (·.1) = none := by rfl) : PG X (.Tuple es k pos) (gTup K n t) := by subst h; exact pg_tup hc hp hn hst
variable {o e : Expr} {es : List Expr} {to : TE} {t : TA} {name : Str} {apos cpos : Pos} {T id : String} {r : V → List V → Hp → VK → Prop}
theorem pe_bm0K (h : X.K = K) (pa : PlainAttrs T) (slot : Slot T name id) (hty : typeOf (.builtin id) = pure (.type "method_descriptor")) (hm : MtR X id r) (ho : PE X o to)
    (hbase : attributeBase o name X.env (eval o X.env) = eval o X.env := by rfl) (hline : (apos.endLine == cpos.line) = true := by rfl) : PE X (.Call (.Attribute o name apos) [] [] cpos) (tBM0 K T r to) := by
  subst h; exact pe_bm0 pa slot hty hm ho hbase hline
theorem pe_bmK (h : X.K = K) (pa : PlainAttrs T) (slot : Slot T name id) (hty : typeOf (.builtin id) = pure (.type "method_descriptor")) (hm : MtR X id r) (ho : PE X o to) (ha : PA X (e :: es) t)
    (hbase : attributeBase o name X.env (eval o X.env) = eval o X.env := by rfl)
    (hfew : ((backTo cpos (starEach (e :: es) X.env)).all (fun x => !x.1) && (backToKw cpos (keywordEach [] X.env)).all (fun x => x.1.isSome)
      && decide ((e :: es).length + ([] : List Keyword).length + (if ([] : List Keyword).isEmpty then 0 else 1) < 30)) = true := by rfl)
    (hline : (apos.endLine == cpos.line) = true := by rfl) (hs : starEach (e :: es) X.env = (false, eval e X.env) :: starEach es X.env := by rfl) (hplain : (backTo cpos (starEach es X.env)).any (·.1) = false := by rfl) :
    PE X (.Call (.Attribute o name apos) (e :: es) [] cpos) (tBM K T r to t) := by
  subst h; exact pe_bm pa slot hty hm ho ha hbase hfew hline hs hplain
theorem pe_bmSK {r : L2.St → V → List V → Hp → VK → Prop} (h : X.K = K) (pa : PlainAttrs T) (slot : Slot T name id) (hty : typeOf (.builtin id) = pure (.type "method_descriptor")) (hm : MtS X id r) (ho : PE X o to) (ha : PA X (e :: es) t)
    (hbase : attributeBase o name X.env (eval o X.env) = eval o X.env := by rfl)
    (hfew : ((backTo cpos (starEach (e :: es) X.env)).all (fun x => !x.1) && (backToKw cpos (keywordEach [] X.env)).all (fun x => x.1.isSome)
      && decide ((e :: es).length + ([] : List Keyword).length + (if ([] : List Keyword).isEmpty then 0 else 1) < 30)) = true := by rfl)
    (hline : (apos.endLine == cpos.line) = true := by rfl) (hs : starEach (e :: es) X.env = (false, eval e X.env) :: starEach es X.env := by rfl) (hplain : (backTo cpos (starEach es X.env)).any (·.1) = false := by rfl) :
    PE X (.Call (.Attribute o name apos) (e :: es) [] cpos) (tBMS K T r to t) := by
  subst h; exact pe_bmS pa slot hty hm ho ha hbase hfew hline hs hplain
/-- by truth -/
theorem pt_truthK {a : Expr} {ta : TE} (h : X.K = K) (ha : PE X a ta) (he : ∀ whole, isTrue a X.env whole = (do let v ← whole; standAt a.pos; holding [v] (truthy v))) :
    PT X a (fun σ H Q => ta σ H fun x H' => ∃ k, TruV K x H' k ∧ Q k H') := by subst h; exact pt_truth ha he
theorem pi_enumK {e : Expr} {ta : TA} {p pos tpos : Pos} {elts : List Expr} {kk : Nat} (h : X.K = K) (hg : Gl X "enumerate") (hm : X.mg "enumerate" = none) (ha : PA X [e] ta) (hs : starEach [e] X.env = [(false, eval e X.env)] := by rfl) :
    PI X (.Tuple elts kk tpos) (.Call (.Name "enumerate" p) [e] [] pos) (iEnum K ta) := by subst h; exact pi_enum hg hm ha hs
theorem pi_reversedK {e : Expr} {ta : TA} {p pos : Pos} (h : X.K = K) (hg : Gl X "reversed") (hm : X.mg "reversed" = none) (ha : PA X [e] ta) (hs : starEach [e] X.env = [(false, eval e X.env)] := by rfl) : PI X tg (.Call (.Name "reversed" p) [e] [] pos) (iRev K ta) := by
  subst h; exact pi_reversed hg hm ha hs
theorem pi_zipK {e e2 : Expr} {ta : TA} {p pos tpos : Pos} {elts : List Expr} {kk : Nat} (h : X.K = K) (hg : Gl X "zip") (hm : X.mg "zip" = none) (ha : PA X [e, e2] ta)
    (hs : starEach [e, e2] X.env = (false, eval e X.env) :: starEach [e2] X.env := by rfl) (hpl : (backTo pos (starEach [e2] X.env)).any (·.1) = false := by rfl) :
    PI X (.Tuple elts kk tpos) (.Call (.Name "zip" p) [e, e2] [] pos) (iZip K ta) := by subst h; exact pi_zip hg hm ha hs hpl
theorem pe_listRevK {e : Expr} {te : TE} {p p2 pos pos2 : Pos} (h : X.K = K) (hc : X.calm = true) (hg : Gl X "list") (hm : X.mg "list" = none) (hg2 : Gl X "reversed") (hm2 : X.mg "reversed" = none) (he : PE X e te)
    (hs : starEach [e] X.env = (false, eval e X.env) :: starEach [] X.env := by rfl)
    (hs2 : starEach [.Call (.Name "reversed" p2) [e] [] pos2] X.env = (false, eval (.Call (.Name "reversed" p2) [e] [] pos2) X.env) :: starEach [] X.env := by rfl) :
    PE X (.Call (.Name "list" p) [.Call (.Name "reversed" p2) [e] [] pos2] [] pos) (tListRev K te) := by subst h; exact pe_listRev hc hg hm hg2 hm2 he hs hs2
end
end Gx
set_option Elab.async false
set_option linter.all false
set_option maxRecDepth 100000
set_option maxHeartbeats 2000000
namespace Gx
open PySem PySem.Spec PyProof.Rows L2
/-! ### the end: tables of several defs -/
theorem walk_ofAll {l : PySem.W.OpenLaw} {n k : Nat} {q : Program} {loose : List Str} {XP : (Str → Option Value) → Heap → Prop} {YP : World → Heap → Prop} {d : DefRec} {K : Params → PySem.W.Frag} {CX : World → CXT} {x : Str} (recs : List Str)
    (hn : l.most = some n) (hn2 : n ≤ sizeLine) (hdf : d.params.defaults = []) (hr : Room k callerA) (hrec : ∀ y ∈ recs, ((recsOf q).any fun e => e.name == y) = true) (hY : ∀ (w : World) (h : Heap), YP w h → (K w.params).In h)
    (F : ∀ (w : World) (mg : Str → Option Value) (fa : Addr) (h : Heap), YP w h → (K w.params).In h → h.Ns mainGlobals mg → mg d.name = some (.ref fa) → (∀ y ∈ recs, ∀ f, mg y = some (.ref f) → LamX.OwnTab (K w.params) f h) → LamX.LawAtS l w (K w.params) (CX w) k n x mg fa h)
    (hCX : ∀ (w : World) (H : Hp) (s : Shared) (e : Value) (s' : Shared), CX w [] H s (fun _ _ _ => False) e s' → False) :
    PySem.W.WalkO q loose XP YP l.row.toRowW d [] (fun f vs => PySem.call f vs) := by
  refine Att.attach_callB hn hdf fun w s₀ s₁ mg mb fa o pm cd doc a vs ns G Y ho hd hcd hmg hobj hints hlen hbits hg => ?_
  have KX := hY w _ Y
  have own : ∀ y ∈ recs, ∀ f, mg y = some (.ref f) → LamX.OwnTab (K w.params) f s₁.heap := fun y hy f hf c P o1 fd1 e dd vs1 sl k1 k2 k3 k4 k5 => by
    obtain ⟨dL, hm, hn1⟩ := List.any_eq_true.mp (hrec y hy)
    have hn2 : dL.name = y := beq_iff_eq.mp hn1
    obtain ⟨a', o', fd', c', P', h1, h2, h3, h4, h5, h6⟩ := G.T.tab dL hm
    rw [hn2, hf] at h1
    cases h1
    have g1 := KX _ _ k1
    rw [g1] at h2
    cases h2
    rw [k2] at h3
    cases h3
    rw [k3] at h4
    cases h4
    obtain ⟨⟨oc, vc, e1, _, e3, e4⟩, hP⟩ := h6
    have g2 := KX _ _ k4
    rw [g2] at e1
    cases e1
    cases e3
    rw [k5] at e4
    cases e4
    exact hP
  obtain ⟨fd, cs, sp, hT, nT, C, hb, hsp, hF⟩ := F w mg fa _ Y KX G.T.g hmg own
  exact LamX.law_callTs KX G.T.g G.T.b G.T.builtins G.T.nolimit hg hT nT C G.T.bmain hobj hints (Nat.le_trans hlen hn2) hr hF hb (fun H hH hS => hsp H a ns hlen hbits hH hS) fun H e s' => hCX w H s₁ e s'
/-- a def at its place -/
theorem funT_mk {K : PySem.W.Frag} {x : Str} {st : Stmt} {f c : Addr} {od an : Option Addr} {sl : Array (Option Value)} {oc kV dc pm ct : Value} (l : K.lookup f = some ⟨oc, od, .func (PySem.W.fnOf x x (defArgs st) (defBody st) (defScope st) .none kV dc pm an (.ref c) ct), sl⟩)
    (hc : PySem.W.codeIn K (.ref c) x = true) (hk : PySem.W.keepIn K (.ref f) = true) : FunT K x st f (PySem.W.fnOf x x (defArgs st) (defBody st) (defScope st) .none kV dc pm an (.ref c) ct) c := ⟨⟨oc, od, kV, dc, pm, an, ct, sl, rfl, l, hc⟩, hk⟩
theorem tabB_of {base : Heap} {mg : Str → Option Value} {c P : Addr} (t : LamX.TabB base mg c P) : GxR.TabB base mg c P := ⟨t.1, t.2, t.3⟩
/-- the def's own table, from what is read in the written part -/
theorem tab_own {K : PySem.W.Frag} {h : Heap} {x : Str} {st : Stmt} {f c P : Addr} {fd : FuncData} {e : Value} {dd : Option Addr} {vs : Array Value} {sl : Array (Option Value)} (F : FunT K x st f fd c) (o : LamX.OwnTab K f h) (l : K.lookup c = some ⟨e, dd, .fields vs, sl⟩) (hv : vs[11]? = some (.ref P)) :
    h.get? P = some { cls := .none, data := .fields #[] } := by
  obtain ⟨oc, od, kV, doc, pm, an, ct, osl, rfl, lk, _⟩ := F.ex
  exact o c P _ _ e dd vs sl lk rfl rfl l hv
theorem tabG_nil {H : Hp} {P : Addr} (h : H P = some (.tbl #[])) : GxR.TabG H P := ⟨_, h, trivial⟩
/-- a code object's head, from its fields -/
def hdB (e : Value) (vs : Array Value) (c P : Addr) : Bool := (match e with | .type "code" => true | _ => false) && (match (vs[11]? : Option Value) with | some (.ref P') => P' == P | _ => false) &&
  (match vs.getD 18 .none with | .str _ _ => true | _ => false) && (match vs.getD 7 .none with | .int _ _ => true | _ => false) && (match vs.getD 9 .none with | .bool _ => true | _ => false) && (match vs.getD 10 .none with | .int _ _ => true | _ => false) && c != P
theorem hd_of {K : PySem.W.Frag} {c P : Addr} {e : Value} {dd : Option Addr} {vs : Array Value} {sl : Array (Option Value)} (l : K.lookup c = some ⟨e, dd, .fields vs, sl⟩) (h : hdB e vs c P = true) : PySem.W.codeHdIn K c P = true := by
  unfold PySem.W.codeHdIn
  rw [l]
  unfold hdB at h
  simp only [Bool.and_eq_true] at h
  obtain ⟨⟨⟨⟨⟨⟨h1, h2⟩, h3⟩, h4⟩, h5⟩, h6⟩, h7⟩ := h
  split at h1
  · simp only [Bool.and_eq_true]
    exact ⟨⟨⟨⟨⟨h2, h3⟩, h4⟩, h5⟩, h6⟩, h7⟩
  · cases h1
end Gx
set_option Elab.async false
set_option linter.all false
set_option maxRecDepth 100000
set_option maxHeartbeats 4000000
namespace K6
open PySem PySem.Spec PyProof.Rows L2 Gx
def topS (i : Nat) : Stmt := PySem.Challenge.pw_fewrules_k06_words_names_and_atoms.main.body.getD i (.Pass ⟨0, 0, 0, 0⟩)
abbrev s_words_of : Stmt := topS 3
theorem sc_words_of : FnScope ["line", "words", "column", "word"] ["line"] (defScope s_words_of) := ⟨rfl, rfl, rfl, by decide +kernel, rfl, by decide +kernel, by decide +kernel⟩
abbrev s_is_name : Stmt := topS 4
theorem sc_is_name : FnScope ["word"] ["word"] (defScope s_is_name) := ⟨rfl, rfl, rfl, by decide +kernel, rfl, by decide +kernel, by decide +kernel⟩
abbrev s_is_numeral : Stmt := topS 5
theorem sc_is_numeral : FnScope ["word"] ["word"] (defScope s_is_numeral) := ⟨rfl, rfl, rfl, by decide +kernel, rfl, by decide +kernel, by decide +kernel⟩
abbrev s_atom_of : Stmt := topS 6
theorem sc_atom_of : FnScope ["word", "name", "_", "rest", "names"] ["word"] (defScope s_atom_of) := ⟨rfl, rfl, rfl, by decide +kernel, rfl, by decide +kernel, by decide +kernel⟩
abbrev s__law_draws : Stmt := topS 8
theorem sc__law_draws : FnScope ["script", "draws", "cell", "number", "first", "k", "seed"] ["script"] (defScope s__law_draws) := ⟨rfl, rfl, rfl, by decide +kernel, rfl, by decide +kernel, by decide +kernel⟩
abbrev s__law_take : Stmt := topS 9
theorem sc__law_take : FnScope ["draws", "bound"] ["draws", "bound"] (defScope s__law_take) := ⟨rfl, rfl, rfl, by decide +kernel, rfl, by decide +kernel, by decide +kernel⟩
abbrev s__law_same : Stmt := topS 10
theorem sc__law_same : FnScope ["value", "due", "k"] ["value", "due"] (defScope s__law_same) := ⟨rfl, rfl, rfl, by decide +kernel, rfl, by decide +kernel, by decide +kernel⟩
abbrev s__law_pick : Stmt := topS 11
theorem sc__law_pick : FnScope ["draws", "items"] ["draws", "items"] (defScope s__law_pick) := ⟨rfl, rfl, rfl, by decide +kernel, rfl, by decide +kernel, by decide +kernel⟩
abbrev s__law_name : Stmt := topS 12
theorem sc__law_name : FnScope ["word", "char"] ["word"] (defScope s__law_name) := ⟨rfl, rfl, rfl, by decide +kernel, rfl, by decide +kernel, by decide +kernel⟩
abbrev s__law_numeral : Stmt := topS 13
theorem sc__law_numeral : FnScope ["word", "char"] ["word"] (defScope s__law_numeral) := ⟨rfl, rfl, rfl, by decide +kernel, rfl, by decide +kernel, by decide +kernel⟩
abbrev s__law_parted : Stmt := topS 14
theorem sc__law_parted : FnScope ["text", "sign", "found", "char"] ["text", "sign"] (defScope s__law_parted) := ⟨rfl, rfl, rfl, by decide +kernel, rfl, by decide +kernel, by decide +kernel⟩
abbrev s__law_written : Stmt := topS 15
theorem sc__law_written : FnScope ["word", "place", "names", "name"] ["word"] (defScope s__law_written) := ⟨rfl, rfl, rfl, by decide +kernel, rfl, by decide +kernel, by decide +kernel⟩
abbrev s__law_word : Stmt := topS 16
theorem sc__law_word : FnScope ["draws", "pool", "kind", "names", "word", "place", "change", "k"] ["draws"] (defScope s__law_word) := ⟨rfl, rfl, rfl, by decide +kernel, rfl, by decide +kernel, by decide +kernel⟩
abbrev s_law : Stmt := topS 17
theorem sc_law : FnScope ["script", "draws", "words", "k", "word", "line", "due", "column"] ["script"] (defScope s_law) := ⟨rfl, rfl, rfl, by decide +kernel, rfl, by decide +kernel, by decide +kernel⟩
structure Ads where
  (f_words_of c_words_of P_words_of : Addr) (fd_words_of : FuncData)
  (f_is_name c_is_name P_is_name : Addr) (fd_is_name : FuncData)
  (f_is_numeral c_is_numeral P_is_numeral : Addr) (fd_is_numeral : FuncData)
  (f_atom_of c_atom_of P_atom_of : Addr) (fd_atom_of : FuncData)
  (f__law_draws c__law_draws P__law_draws : Addr) (fd__law_draws : FuncData)
  (f__law_take c__law_take P__law_take : Addr) (fd__law_take : FuncData)
  (f__law_same c__law_same P__law_same : Addr) (fd__law_same : FuncData)
  (f__law_pick c__law_pick P__law_pick : Addr) (fd__law_pick : FuncData)
  (f__law_name c__law_name P__law_name : Addr) (fd__law_name : FuncData)
  (f__law_numeral c__law_numeral P__law_numeral : Addr) (fd__law_numeral : FuncData)
  (f__law_parted c__law_parted P__law_parted : Addr) (fd__law_parted : FuncData)
  (f__law_written c__law_written P__law_written : Addr) (fd__law_written : FuncData)
  (f__law_word c__law_word P__law_word : Addr) (fd__law_word : FuncData)
  (f_law c_law P_law : Addr) (fd_law : FuncData)
structure Txt (K : PySem.W.Frag) (mg : Str → Option Value) (a : Ads) : Prop where
  g_words_of : mg "words_of" = some (.ref a.f_words_of)
  F_words_of : FunT K "words_of" s_words_of a.f_words_of a.fd_words_of a.c_words_of
  b_words_of : Binds K a.fd_words_of ["line"] []
  g_is_name : mg "is_name" = some (.ref a.f_is_name)
  F_is_name : FunT K "is_name" s_is_name a.f_is_name a.fd_is_name a.c_is_name
  b_is_name : Binds K a.fd_is_name ["word"] []
  g_is_numeral : mg "is_numeral" = some (.ref a.f_is_numeral)
  F_is_numeral : FunT K "is_numeral" s_is_numeral a.f_is_numeral a.fd_is_numeral a.c_is_numeral
  b_is_numeral : Binds K a.fd_is_numeral ["word"] []
  g_atom_of : mg "atom_of" = some (.ref a.f_atom_of)
  F_atom_of : FunT K "atom_of" s_atom_of a.f_atom_of a.fd_atom_of a.c_atom_of
  b_atom_of : Binds K a.fd_atom_of ["word"] []
  g__law_draws : mg "_law_draws" = some (.ref a.f__law_draws)
  F__law_draws : FunT K "_law_draws" s__law_draws a.f__law_draws a.fd__law_draws a.c__law_draws
  b__law_draws : Binds K a.fd__law_draws ["script"] []
  g__law_take : mg "_law_take" = some (.ref a.f__law_take)
  F__law_take : FunT K "_law_take" s__law_take a.f__law_take a.fd__law_take a.c__law_take
  b__law_take : Binds K a.fd__law_take ["draws", "bound"] []
  g__law_same : mg "_law_same" = some (.ref a.f__law_same)
  F__law_same : FunT K "_law_same" s__law_same a.f__law_same a.fd__law_same a.c__law_same
  b__law_same : Binds K a.fd__law_same ["value", "due"] []
  g__law_pick : mg "_law_pick" = some (.ref a.f__law_pick)
  F__law_pick : FunT K "_law_pick" s__law_pick a.f__law_pick a.fd__law_pick a.c__law_pick
  b__law_pick : Binds K a.fd__law_pick ["draws", "items"] []
  g__law_name : mg "_law_name" = some (.ref a.f__law_name)
  F__law_name : FunT K "_law_name" s__law_name a.f__law_name a.fd__law_name a.c__law_name
  b__law_name : Binds K a.fd__law_name ["word"] []
  g__law_numeral : mg "_law_numeral" = some (.ref a.f__law_numeral)
  F__law_numeral : FunT K "_law_numeral" s__law_numeral a.f__law_numeral a.fd__law_numeral a.c__law_numeral
  b__law_numeral : Binds K a.fd__law_numeral ["word"] []
  g__law_parted : mg "_law_parted" = some (.ref a.f__law_parted)
  F__law_parted : FunT K "_law_parted" s__law_parted a.f__law_parted a.fd__law_parted a.c__law_parted
  b__law_parted : Binds K a.fd__law_parted ["text", "sign"] []
  g__law_written : mg "_law_written" = some (.ref a.f__law_written)
  F__law_written : FunT K "_law_written" s__law_written a.f__law_written a.fd__law_written a.c__law_written
  b__law_written : Binds K a.fd__law_written ["word"] []
  g__law_word : mg "_law_word" = some (.ref a.f__law_word)
  F__law_word : FunT K "_law_word" s__law_word a.f__law_word a.fd__law_word a.c__law_word
  b__law_word : Binds K a.fd__law_word ["draws"] []
  g_law : mg "law" = some (.ref a.f_law)
  F_law : FunT K "law" s_law a.f_law a.fd_law a.c_law
  b_law : Binds K a.fd_law ["script"] []
  len : mg "len" = none
  all : mg "all" = none
  abs : mg "abs" = none
  int : mg "int" = none
  range : mg "range" = none
  list : mg "list" = none
  reversed : mg "reversed" = none
  isinstance : mg "isinstance" = none
  tuple : mg "tuple" = none
  bool : mg "bool" = none
  str : mg "str" = none
  m_LETTERS : ∃ u, mg "LETTERS" = some u ∧ RelV (.str "abcdefghijklmnopqrstuvwxyz") u
  m_DIGITS : ∃ u, mg "DIGITS" = some u ∧ RelV (.str "0123456789") u
structure TabT (base : Heap) (mg : Str → Option Value) (a : Ads) : Prop where
  tab_is_name : GxR.TabB base mg a.c_is_name a.P_is_name
  tab_is_numeral : GxR.TabB base mg a.c_is_numeral a.P_is_numeral
  tab_atom_of : GxR.TabB base mg a.c_atom_of a.P_atom_of
end K6
set_option Elab.async false
set_option linter.all false
set_option maxRecDepth 100000
set_option maxHeartbeats 4000000
namespace K6
open PySem PySem.Spec PyProof.Rows L2 Gx

/-! ### the mathematics of words -/
abbrev cl (w : Str) : List Nat := w.cps.toList
def letters : List Nat := cl "abcdefghijklmnopqrstuvwxyz"
def digits : List Nat := cl "0123456789"
def lenB (n w : Nat) : Bool := decide ((1 : Int) ≤ (w : Int)) && decide ((w : Int) ≤ (n : Int))
def nameB (w : Str) : Bool := lenB 12 w.length && (cl w).all fun c => decide (c ∈ letters)
def numB (w : Str) : Bool := (lenB 9 w.length && (cl w).all fun c => decide (c ∈ digits)) && (decide (V.str w = V.str "0") || !Txt.startswith w "0")
theorem big {n : Nat} (h : n ≤ 1000000) : n ≤ sizeLine := Nat.le_trans h (by decide)
theorem len_cl (w : Str) : (cl w).length = w.length := Array.length_toList
structure Wd (w : Str) : Prop where
  len : w.length ≤ 100000
  asc : ∀ c ∈ cl w, c < 128
theorem val {Q : VK} {b c : Bool} {H : Hp} (e : b = c) (q : Q (.bl b) H) : Q (.bl c) H := e ▸ q
theorem Wd.big {w : Str} (h : Wd w) : w.length ≤ sizeLine := Nat.le_trans h.len (by decide)
section
variable {P : Program} {w : World} {K : PySem.W.Frag} {mg : Str → Option Value} {base : Heap} {a : Ads}
/-- is_name -/
def spName (a : Ads) : Sp := fun vs H Q _ => ∃ w : Str, vs = [.str w] ∧ Wd w ∧ GxR.TabG H a.P_is_name ∧ ∀ H', Xt H H' → Q (.bl (nameB w)) H'
theorem ok_is_name (T : Txt K mg a) (B : TabT base mg a) : FnOk P w K mg base CX0 2 a.f_is_name a.fd_is_name ["word"] (spName a) := by
  refine T.F_is_name.ok sc_is_name (fun vs H Q E h => ?_) (fun A outer s H vs Q E hr h => ?_)
  · obtain ⟨x, rfl, _⟩ := h
    rfl
  · obtain ⟨x, rfl, hx, hT, q⟩ := h
    refine ⟨_, (pss_one (ps_ret (pe_and (pe_chain op_le op_le pe_int (pe_callB call_len_str rfl T.len (by decide +kernel) (pa_cons (pv 0) pa_nil)) pe_int) (pe_one (Gx.pe_allG (own := ["letter"]) (caps := []) (cix := []) hr rfl T.all B.tab_is_name rfl (Gx.gxs_by (sc := defScope s_is_name) (N := ["word"]) (by decide +kernel)) (pi_str (pv 0)) (fun A s H C cl code bi fp pn hr' => (pg_name (i := 0) (Gx.ndw (own := ["letter"]) (caps := []) (by decide +kernel)) rfl (.inl rfl))) (fun A s H C cl code bi fp pn hr' => pts_nil) (fun A s H C cl code bi fp pn hr' => (pe_cmpR op_in_sign (pv 0) (Gx.pe_gcon rfl T.m_LETTERS) rfl))))))), ?_⟩
    refine ⟨_, rfl, x, rfl, hx.big, 1, x.length, rfl, rfl, _, rfl, ite2 (fun h1 => ?_) (fun h1 => ?_)⟩
    · refine ⟨x.length, 12, rfl, rfl, _, rfl, ite2 (fun h2 => ?_) (fun h2 => ?_)⟩
      · refine ⟨_, rfl, x, rfl, hT, fun H2 t2 => ?_⟩
        have x2 : Xt H H2 := Xt.tabbed hT t2
        refine gx_all_str (fun c => decide (c ∈ letters)) (fun c H' N xt k => ⟨wk_set rfl, .str ⟨#[c]⟩, rfl, c, _, rfl, rfl, _, rfl, k _ xt⟩) fun H' xt => ?_
        have q2 := q _ (x2.trans xt)
        unfold nameB lenB at q2
        rw [h1, show decide ((x.length : Int) ≤ ((12 : Nat) : Int)) = true from h2] at q2
        exact q2
      · have q2 := q _ (Xt.refl H)
        unfold nameB lenB at q2
        rw [show decide ((x.length : Int) ≤ ((12 : Nat) : Int)) = false from eq_false_of_ne_true h2, Bool.and_false] at q2
        exact q2
    · have q2 := q _ (Xt.refl H)
      unfold nameB lenB at q2
      rw [eq_false_of_ne_true h1] at q2
      exact ⟨false, rfl, iteF q2⟩

/-- is_numeral -/
def spNum (a : Ads) : Sp := fun vs H Q _ => ∃ w : Str, vs = [.str w] ∧ Wd w ∧ GxR.TabG H a.P_is_numeral ∧ ∀ H', Xt H H' → Q (.bl (numB w)) H'
theorem ok_is_numeral (T : Txt K mg a) (B : TabT base mg a) : FnOk P w K mg base CX0 2 a.f_is_numeral a.fd_is_numeral ["word"] (spNum a) := by
  refine T.F_is_numeral.ok sc_is_numeral (fun vs H Q E h => ?_) (fun A outer s H vs Q E hr h => ?_)
  · obtain ⟨x, rfl, _⟩ := h
    rfl
  · obtain ⟨x, rfl, hx, hT, q⟩ := h
    refine ⟨_, (pss_cons (ps_if (PW.pt (pw_or (pt_not (pt_chain op_le op_le pe_int (pe_callB call_len_str rfl T.len (by decide +kernel) (pa_cons (pv 0) pa_nil)) pe_int)) (pw_or1 (pt_not (pt_val (Gx.pe_allG (own := ["digit"]) (caps := []) (cix := []) hr rfl T.all B.tab_is_numeral rfl (Gx.gxs_by (sc := defScope s_is_numeral) (N := ["word"]) (by decide +kernel)) (pi_str (pv 0)) (fun A s H C cl code bi fp pn hr' => (pg_name (i := 0) (Gx.ndw (own := ["digit"]) (caps := []) (by decide +kernel)) rfl (.inl rfl))) (fun A s H C cl code bi fp pn hr' => pts_nil) (fun A s H C cl code bi fp pn hr' => (pe_cmpR op_in_sign (pv 0) (Gx.pe_gcon rfl T.m_DIGITS) rfl))))))))
  (pss_one (ps_ret pe_bl))
  pss_nil)
 (pss_one (ps_ret (pe_or (pe_cmpR op_eq (pv 0) pe_str (nomark _)) (pe_one (pe_not (pe_m1 PySem.F.slot_str_startswith PySem.F.type_str_startswith mt_startswith (pv 0) pe_str))))))), ?_⟩
    refine ⟨_, rfl, x, rfl, hx.big, 1, x.length, rfl, rfl, _, rfl, ite2 (fun h1 => ?_) (fun h1 => ?_)⟩
    · refine ⟨x.length, 9, rfl, rfl, _, rfl, ite2 (fun h2 => ?_) (fun h2 => ?_)⟩
      · refine iteT ?_
        have h2' : ¬ ((x.length : Int) ≤ 9) := by simpa using h2
        exact val (by simp [numB, lenB, h2']) (q _ (Xt.refl H))
      · refine ⟨_, rfl, x, rfl, hT, fun H2 t2 => ?_⟩
        have x2 : Xt H H2 := Xt.tabbed hT t2
        have h1' : (1 : Int) ≤ (x.length : Int) := by simpa using h1
        have h2' : (x.length : Int) ≤ 9 := by simpa using h2
        refine gx_all_str (fun c => decide (c ∈ digits)) (fun c H' N xt k => ⟨wk_set rfl, .str ⟨#[c]⟩, rfl, c, _, rfl, rfl, _, rfl, k _ xt⟩) fun H' xt => ?_
        refine ⟨_, rfl, ite2 (fun h3 => ?_) (fun h3 => ?_)⟩
        · have h3' : ((cl x).all fun c => decide (c ∈ digits)) = false := by simpa using h3
          exact val (by unfold numB; rw [h3']; simp) (q _ (x2.trans xt))
        · have h3' : ((cl x).all fun c => decide (c ∈ digits)) = true := by
            cases e : ((cl x).all fun c => decide (c ∈ digits))
            · exact absurd (by show (!((cl x).all fun c => decide (c ∈ digits))) = true; rw [e]; rfl) h3
            · rfl
          have e0 : numB x = (decide (V.str x = V.str "0") || !Txt.startswith x "0") := by
            unfold numB
            rw [h3']
            simp [lenB, h1', h2']
          refine ⟨.str x, rfl, rfl, _, rfl, ite2 (fun h4 => ?_) (fun h4 => ?_)⟩
          · exact val (by rw [e0, h4]; rfl) (q _ (x2.trans xt))
          · refine ⟨.str x, rfl, ⟨x, rfl⟩, x, _, rfl, rfl, _, rfl, ?_⟩
            exact val (by rw [e0, eq_false_of_ne_true h4]; rfl) (q _ (x2.trans xt))
    · have h1' : ¬ ((1 : Int) ≤ (x.length : Int)) := by simpa using h1
      exact ⟨false, rfl, iteT (val (by simp [numB, lenB, h1']) (q _ (Xt.refl H)))⟩

/-- _law_name -/
theorem strsD {K : PySem.W.Frag} {H : Hp} : ∀ l : List Nat, DpAll K H (l.map fun c => V.str ⟨#[c]⟩) (l.map fun c => PyData.str ⟨#[c]⟩)
  | [] => .nil
  | c :: l => .cons (.str _) (strsD l)
theorem shp_signs {l : List Nat} (h : ∀ c ∈ l, c < 128) : SeqAt.shaped (.list (l.map fun c => PyData.str ⟨#[c]⟩)) = true := by
  refine shp_list fun d hd => ?_
  obtain ⟨c, hc, rfl⟩ := List.mem_map.mp hd
  have h1 := h c hc
  refine ⟨?_, Nat.zero_le _⟩
  show (#[c].all fun z => decide (z < 0x110000)) = true
  simp; omega
theorem eqv_nil {l : List PyData} : PyData.eqv (.list l) (.list []) = l.isEmpty := by cases l <;> rfl
theorem fil_all (l : List Nat) (p : Nat → Bool) : (((l.filter fun c => !p c).map fun c => PyData.str ⟨#[c]⟩)).isEmpty = l.all p := by
  induction l with
  | nil => rfl
  | cons c l ih =>
    rw [List.filter_cons, List.all_cons, ← ih]
    cases p c <;> rfl
def spLname : Sp := fun vs H Q _ => ∃ w : Str, vs = [.str w] ∧ Wd w ∧ ∀ H1, Xt H H1 → Q (.bl (nameB w)) H1
theorem ok__law_name (T : Txt K mg a) (B : TabT base mg a) : FnOk P w K mg base CX0 1 a.f__law_name a.fd__law_name ["word"] (spLname) := by
  refine T.F__law_name.ok sc__law_name (fun vs H Q E h => ?_) (fun A outer s H vs Q E hr h => ?_)
  · obtain ⟨x, rfl, _⟩ := h
    rfl
  · obtain ⟨x, rfl, hx, q⟩ := h
    refine ⟨_, (pss_one (ps_ret (pe_and (pe_chain op_le op_le pe_int (pe_callB call_len_str rfl T.len (by decide +kernel) (pa_cons (pv 0) pa_nil)) pe_int) (pe_one (pe_cmpR (Gx.op_eqDK (K := K) rfl hr.units) (pe_lc (own := [("char", 1)]) rfl sc__law_name.nd (pi_str (pv 0)) (blkOk_by (own := [("char", 1)]) (N := ["word", "char"]) (sc := defScope s__law_name) (by decide +kernel)) (fun _ _ _ _ _ => (pg_name (i := 1) sc__law_name.nd rfl (.inl rfl))) (fun _ _ _ _ _ => (pts_one (pt_cmpR op_notIn_sign (pv 1) pe_str rfl))) (fun _ _ _ _ _ => (pv 1))) (pe_lst pa_nil) (nomark _)))))), ?_⟩
    refine ⟨_, rfl, x, rfl, hx.big, 1, x.length, rfl, rfl, _, rfl, ite2 (fun h1 => ?_) (fun h1 => ?_)⟩
    · have h1' : (1 : Int) ≤ (x.length : Int) := by simpa using h1
      refine ⟨x.length, 12, rfl, rfl, _, rfl, ite2 (fun h2 => ?_) (fun h2 => ?_)⟩
      · have h2' : (x.length : Int) ≤ 12 := by simpa using h2
        refine ⟨_, rfl, x, rfl, fun D hD => lcf_str (fun c => !decide (c ∈ letters)) (fun c => .str ⟨#[c]⟩) hD hx.big (fun c hc H' Y N xt k1 k2 => ?_) (fun H' xt hl => ?_)⟩
        · exact ⟨rfl, .str ⟨#[c]⟩, rfl, c, _, rfl, rfl, _, rfl, ite2 (fun e => ⟨_, rfl, k1 _ (Xt.refl _) e⟩) (fun e => k2 _ (Xt.refl _) (eq_false_of_ne_true e))⟩
        · refine ⟨Nat.zero_le _, fun l hl2 => ⟨_, _, .lst (.inl (.inl ((Xt.new hl2).lst hl))) (strsD _), .lst (.inl (.inl (upd_same ..))) .nil, shp_signs (fun c hc => hx.asc c (List.mem_filter.mp hc).1), shp_nil, ?_⟩⟩
          refine val ?_ (q _ (xt.trans (Xt.new hl2)))
          unfold nameB lenB
          rw [eqv_nil, fil_all (x.cps.toList) (fun c => decide (c ∈ letters))]
          simp [h1', h2']
      · have h2' : ¬ ((x.length : Int) ≤ 12) := by simpa using h2
        exact val (by simp [nameB, lenB, h2']) (q _ (Xt.refl H))
    · have h1' : ¬ ((1 : Int) ≤ (x.length : Int)) := by simpa using h1
      exact ⟨false, rfl, iteF (val (by simp [nameB, lenB, h1']) (q _ (Xt.refl H)))⟩

/-- _law_numeral -/
theorem starts_pre {x y : Str} (hy : TL.tl y ≠ []) : Txt.startswith x y = TL.pre (TL.tl y) (TL.tl x) := by
  have h := TL.at_iff (x := x) hy 0
  rw [List.drop_zero] at h
  unfold Txt.startswith
  unfold PySem.StrLaws.At at h
  rw [Bool.eq_iff_iff, ← h, Bool.and_eq_true, decide_eq_true_iff]
theorem starts_zero {x : Str} {c : Nat} (h : (cl x)[0]? = some c) : Txt.startswith x "0" = decide (V.str ⟨#[c]⟩ = V.str "0") := by
  rw [starts_pre (by decide)]
  cases e : cl x with
  | nil => rw [e] at h; cases h
  | cons d l =>
    rw [e] at h
    obtain rfl : d = c := by simpa using h
    rw [show TL.tl x = d :: l from e, show TL.tl (Str.ofString "0") = [48] from by decide]
    show ([d] == [48]) = _
    by_cases hd : d = 48
    · rw [hd]; decide
    · have : ¬ (V.str ⟨#[d]⟩ = V.str "0") := by
        intro z
        injection z with z
        have z1 := congrArg (fun t : Str => t.cps.toList) z
        have e2 : ("0" : Str).cps.toList = [48] := by decide
        simp only [e2] at z1
        exact hd (by injection z1)
      rw [decide_eq_false this]
      simp [hd]
def spLnum : Sp := fun vs H Q _ => ∃ w : Str, vs = [.str w] ∧ Wd w ∧ ∀ H1, Xt H H1 → Q (.bl (numB w)) H1
theorem ok__law_numeral (T : Txt K mg a) (B : TabT base mg a) : FnOk P w K mg base CX0 1 a.f__law_numeral a.fd__law_numeral ["word"] (spLnum) := by
  refine T.F__law_numeral.ok sc__law_numeral (fun vs H Q E h => ?_) (fun A outer s H vs Q E hr h => ?_)
  · obtain ⟨x, rfl, _⟩ := h
    rfl
  · obtain ⟨x, rfl, hx, q⟩ := h
    refine ⟨_, (pss_cons (ps_if (PW.pt (pw_or (pt_not (pt_chain op_le op_le pe_int (pe_callB call_len_str rfl T.len (by decide +kernel) (pa_cons (pv 0) pa_nil)) pe_int)) (pw_or1 (pt_cmpR (Gx.op_neDK (K := K) rfl hr.units) (pe_lc (own := [("char", 1)]) rfl sc__law_numeral.nd (pi_str (pv 0)) (blkOk_by (own := [("char", 1)]) (N := ["word", "char"]) (sc := defScope s__law_numeral) (by decide +kernel)) (fun _ _ _ _ _ => (pg_name (i := 1) sc__law_numeral.nd rfl (.inl rfl))) (fun _ _ _ _ _ => (pts_one (pt_cmpR op_notIn_sign (pv 1) pe_str rfl))) (fun _ _ _ _ _ => (pv 1))) (pe_lst pa_nil) (nomark _)))))
  (pss_one (ps_ret pe_bl))
  pss_nil)
 (pss_one (ps_ret (pe_or (pe_cmpR op_eq (pv 0) pe_str (nomark _)) (pe_one (pe_cmpR op_ne (pe_ix ix_str (pv 0) pe_int (fun _ _ => rfl)) pe_str (nomark _))))))), ?_⟩
    refine ⟨_, rfl, x, rfl, hx.big, 1, x.length, rfl, rfl, _, rfl, ite2 (fun h1 => ?_) (fun h1 => ?_)⟩
    · have h1' : (1 : Int) ≤ (x.length : Int) := by simpa using h1
      refine ⟨x.length, 9, rfl, rfl, _, rfl, ite2 (fun h2 => ?_) (fun h2 => ?_)⟩
      · have h2' : ¬ ((x.length : Int) ≤ 9) := by simpa using h2
        exact iteT (val (by simp [numB, lenB, h2']) (q _ (Xt.refl H)))
      · have h2' : (x.length : Int) ≤ 9 := by simpa using h2
        refine ⟨_, rfl, x, rfl, fun D hD => lcf_str (fun c => !decide (c ∈ digits)) (fun c => .str ⟨#[c]⟩) hD hx.big (fun c hc H' Y N xt k1 k2 => ?_) (fun H' xt hl => ?_)⟩
        · exact ⟨rfl, .str ⟨#[c]⟩, rfl, c, _, rfl, rfl, _, rfl, ite2 (fun e => ⟨_, rfl, k1 _ (Xt.refl _) e⟩) (fun e => k2 _ (Xt.refl _) (eq_false_of_ne_true e))⟩
        · refine ⟨Nat.zero_le _, fun l hl2 => ⟨_, _, .lst (.inl (.inl ((Xt.new hl2).lst hl))) (strsD _), .lst (.inl (.inl (upd_same ..))) .nil, shp_signs (fun c hc => hx.asc c (List.mem_filter.mp hc).1), shp_nil, ?_⟩⟩
          have x2 := xt.trans (Xt.new (o := .lst []) hl2)
          rw [eqv_nil, fil_all (x.cps.toList) (fun c => decide (c ∈ digits))]
          refine ⟨_, rfl, ite2 (fun h3 => ?_) (fun h3 => ?_)⟩
          · have h3' : ((cl x).all fun c => decide (c ∈ digits)) = false := by simpa using h3
            exact val (by unfold numB; rw [h3']; simp) (q _ x2)
          · have h3' : ((cl x).all fun c => decide (c ∈ digits)) = true := by
              cases e : ((cl x).all fun c => decide (c ∈ digits))
              · exact absurd (by show (!((cl x).all fun c => decide (c ∈ digits))) = true; rw [e]; rfl) h3
              · rfl
            have e0 : numB x = (decide (V.str x = V.str "0") || !Txt.startswith x "0") := by
              unfold numB
              rw [h3']
              simp [lenB, h1', h2']
            refine ⟨.str x, rfl, rfl, _, rfl, ite2 (fun h4 => ?_) (fun h4 => ?_)⟩
            · exact val (by rw [e0, h4]; rfl) (q _ x2)
            · obtain ⟨c, hc⟩ : ∃ c, (cl x)[0]? = some c := ⟨(cl x)[0]'(by rw [len_cl]; omega), by simp⟩
              refine ⟨_, rfl, x, 0, c, rfl, rfl, hx.big, atI_nat hc, ?_⟩
              refine ⟨rfl, ?_⟩
              refine val ?_ (q _ x2)
              rw [e0, starts_zero hc, eq_false_of_ne_true h4]
              rfl
    · have h1' : ¬ ((1 : Int) ≤ (x.length : Int)) := by simpa using h1
      exact ⟨false, rfl, iteT (val (by simp [numB, lenB, h1']) (q _ (Xt.refl H)))⟩

/-- _law_parted -/
theorem cps_inj {d c : Nat} : (V.str ⟨#[d]⟩ = V.str ⟨#[c]⟩) ↔ d = c := ⟨fun z => by injection z with z; have z1 := congrArg (fun t : Str => t.cps.toList) z; simpa using z1, fun z => by rw [z]⟩
theorem pre_one (d c : Nat) (l : List Nat) : TL.pre [c] (d :: l) = decide (d = c) := by
  show ([d] == [c]) = _
  by_cases h : d = c
  · subst h; simp
  · simp [h]
theorem drop_at {l : List Nat} {i d : Nat} (h : l[i]? = some d) : l.drop i = d :: l.drop (i + 1) := by
  obtain ⟨h1, h2⟩ := List.getElem?_eq_some_iff.mp h
  rw [List.drop_eq_getElem_cons h1, h2]
def spParted : Sp := fun vs H Q _ => ∃ (x : Str) (c : Nat), vs = [.str x, .str ⟨#[c]⟩] ∧ Wd x ∧ c < 128 ∧ ∀ H1 q, Xt H H1 → H q = none → H1 q = some (.lst ((Txt.split x ⟨#[c]⟩).map V.str)) → Q (.ref q) H1
theorem ok__law_parted (T : Txt K mg a) (B : TabT base mg a) : FnOk P w K mg base CX0 1 a.f__law_parted a.fd__law_parted ["text", "sign"] (spParted) := by
  refine T.F__law_parted.ok sc__law_parted (fun vs H Q E h => ?_) (fun A outer s H vs Q E hr h => ?_)
  · obtain ⟨x, c, rfl, _⟩ := h
    rfl
  · obtain ⟨x, c, rfl, hx, hc, q⟩ := h
    refine ⟨_, (pss_cons (ps_set (i := 2) sc__law_parted.nd rfl (.inl rfl) (pe_lst (pa_cons pe_str pa_nil)))
 (pss_cons (ps_for PassesOwn.never rfl (pi_str (pv 0)) (pg_name (i := 3) sc__law_parted.nd rfl (.inl rfl))
  (pss_one (ps_if (pt_cmpR op_eq (pv 3) (pv 1) (nomark _))
  (pss_one (ps_expr (Gx.pe_bmK (K := K) rfl PySem.F.plainAttrs_list PySem.F.slot_list_append PySem.F.type_list_append mt_append (pv 2) (pa_cons pe_str pa_nil))))
  (pss_one (ps_asg (pe_op op_add_str (pe_ix (Gx.ix_listK (K := K) rfl) (pv 2) (pe_op op_sub (pe_callB (Gx.call_len_seqK (K := K) rfl) rfl T.len (by decide +kernel) (pa_cons (pv 2) pa_nil)) pe_int) (fun _ _ => rfl)) (pv 3)) (pg_sub (pv 2) (pe_op op_sub (pe_callB (Gx.call_len_seqK (K := K) rfl) rfl T.len (by decide +kernel) (pa_cons (pv 2) pa_nil)) pe_int) set_list))))))
 (pss_one (ps_ret (pv 2))))), ?_⟩
    refine ⟨by show 1 ≤ sizeLine; decide, fun r hr0 => ⟨_, rfl, x, rfl, ?_⟩⟩
    refine for_str (fun i σ H' => ∃ (ch : Option V) (pre : List Str) (last : Str), σ = [some (.str x), some (.str ⟨#[c]⟩), some (.ref r), ch] ∧ Xt H H' ∧ H' r = some (.lst ((pre ++ [last]).map V.str)) ∧
      pre.length ≤ i ∧ last.length ≤ i ∧ pre.map TL.tl ++ TL.spl [c] 0 (TL.tl last) ((cl x).drop i) = TL.spl [c] 0 [] (cl x)) ⟨none, [], "", rfl, Xt.new hr0, upd_same .., Nat.le_refl _, Nat.le_refl _, rfl⟩ (fun i d σ H' hd hp => ?_) (fun σ H' hp => ?_)
    · obtain ⟨ch, pre, last, rfl, xt, hl, b1, b2, sp⟩ := hp
      have hd' : (cl x)[i]? = some d := by rw [Array.getElem?_toList]; exact hd
      have hi : i < x.length := by rw [← len_cl]; exact (List.getElem?_eq_some_iff.mp hd').1
      have hx1 := hx.len
      have hz : sizeLine = sizeLine := rfl
      have zl : 200001 ≤ sizeLine := by decide
      rw [drop_at hd'] at sp
      refine ⟨.str ⟨#[d]⟩, rfl, .str ⟨#[c]⟩, rfl, rfl, _, rfl, ite2 (fun e => ?_) (fun e => ?_)⟩
      · obtain rfl : d = c := cps_inj.mp (of_decide_eq_true e)
        refine ⟨_, rfl, .inl ⟨rfl, _, .inl (.inl hl)⟩, r, _, _, rfl, rfl, hl, ?_, _, pre ++ [last], "", rfl, xt.mut hr0, ?_, ?_, Nat.zero_le _, ?_⟩
        · simp; omega
        · rw [upd_same]; simp
        · simp; omega
        · rw [TL.spl_hit (by rw [pre_one]; simp)] at sp
          rw [← sp, List.map_append, List.append_assoc]
          rfl
      · have e' : ¬ d = c := fun z => e (decide_eq_true (cps_inj.mpr z))
        have hn : ((((pre ++ [last]).map V.str).length : Nat) : Int) - 1 = ((pre.length : Nat) : Int) := by simp
        refine ⟨_, rfl, _, rfl, r, _, rfl, .inl (.inl (.inl hl)), _, _, rfl, rfl, r, _, _, .str last, rfl, rfl, .inl (.inl hl), by rw [hn]; exact atI_nat (by simp), _, rfl, last, _, rfl, rfl, ?_, _, rfl, _, rfl, r, _, rfl, .inl (.inl (.inl hl)), _, _, rfl, rfl, r, _, _, pre.length, rfl, rfl, hl, ?_, ?_⟩
        · show last.length + 1 ≤ sizeLine; omega
        · rw [hn]; unfold ixN; rw [if_pos (by omega), if_pos (by simp; omega)]; simp
        · refine ⟨_, pre, last ++ ⟨#[d]⟩, rfl, xt.mut hr0, ?_, Nat.le_succ_of_le b1, ?_, ?_⟩
          · rw [upd_same]; simp
          · show (last ++ (⟨#[d]⟩ : Str)).length ≤ i + 1
            rw [TL.len_tl, TL.tl_append, List.length_append, ← TL.len_tl]
            show last.length + 1 ≤ i + 1
            omega
          · rw [TL.spl_miss (by rw [pre_one]; simp [e'])] at sp
            rw [TL.tl_append]
            exact sp
    · obtain ⟨ch, pre, last, rfl, xt, hl, b1, b2, sp⟩ := hp
      refine ⟨_, rfl, q _ _ xt hr0 ?_⟩
      rw [hl]
      have e : (Txt.split x ⟨#[c]⟩).map TL.tl = (pre ++ [last]).map TL.tl := by
        rw [TL.split_spl x ⟨#[c]⟩ (by simp [TL.tl]) (TL.kind_ok (by simp; omega))]
        show TL.spl [c] 0 [] (cl x) = _
        rw [← sp, show (cl x).drop x.cps.size = [] from List.drop_eq_nil_of_le (by rw [len_cl]; exact Nat.le_refl _), TL.spl_nil, List.map_append]
        rfl
      rw [TL.map_tl_inj e]

/-- words_of -/
def colN (ws : List Str) (i : Nat) : Int := 1 + ((ws.take i).map fun w => (w.length : Int) + 1).sum
theorem colN_succ {ws : List Str} {i : Nat} {w : Str} (h : ws[i]? = some w) : colN ws (i + 1) = colN ws i + (w.length : Int) + 1 := by
  unfold colN
  rw [List.take_add_one, h, List.map_append, List.sum_append]
  show _ + (_ + (((w.length : Int) + 1) + 0)) = _
  omega
/-- a list of pairs: column, word -/
structure ColsAt (H : Hp) (q : Addr) (ws : List Str) (n : Nat) (rs : List Addr) : Prop where
  lst : H q = some (.lst (rs.map V.ref))
  len : rs.length = n
  itm : ∀ i w r, ws[i]? = some w → rs[i]? = some r → H r = some (.tup [.int (colN ws i), .str w])
theorem ColsAt.xt {H H' : Hp} {q : Addr} {ws : List Str} {n : Nat} {rs : List Addr} (h : ColsAt H q ws n rs) (x : Xt H H') : ColsAt H' q ws n rs := ⟨x.lst h.lst, h.len, fun i w r e1 e2 => x.tup (h.itm i w r e1 e2)⟩
theorem ColsAt.snoc {H : Hp} {q t : Addr} {ws : List Str} {n : Nat} {rs : List Addr} {w : Str} (h : ColsAt H q ws n rs) (hw : ws[n]? = some w) (ht : H t = some (.tup [.int (colN ws n), .str w])) :
    ColsAt (upd H q (.lst (rs.map V.ref ++ [.ref t]))) q ws (n + 1) (rs ++ [t]) := by
  have hn : ∀ r x, H r = some (.tup x) → r ≠ q := fun r x e z => by rw [z, h.lst] at e; cases e
  refine ⟨by rw [upd_same, List.map_append]; rfl, by rw [List.length_append, h.len]; rfl, fun i z r e1 e2 => ?_⟩
  by_cases hi : i < rs.length
  · rw [List.getElem?_append_left hi] at e2
    have e3 := h.itm i z r e1 e2
    rw [upd_ne (hn _ _ e3)]
    exact e3
  · rw [List.getElem?_append_right (by omega)] at e2
    have e4 : i = n := by
      have := (List.getElem?_eq_some_iff.mp e2).1
      have := h.len
      simp at *
      omega
    subst e4
    rw [h.len, Nat.sub_self] at e2
    obtain rfl : t = r := by simpa using e2
    rw [hw] at e1
    cases e1
    rw [upd_ne (hn _ _ ht)]
    exact ht
theorem spl_hit1 {c d : Nat} (h : d = c) (l acc : List Nat) : TL.spl [c] 0 acc (d :: l) = acc :: TL.spl [c] 0 [] l := TL.spl_hit (by rw [pre_one]; simp [h])
theorem spl_miss1 {c d : Nat} (h : ¬ d = c) (l acc : List Nat) : TL.spl [c] 0 acc (d :: l) = TL.spl [c] 0 (acc ++ [d]) l := TL.spl_miss (by rw [pre_one]; simp [h])
theorem spl_len (c : Nat) : ∀ (l acc : List Nat), (TL.spl [c] 0 acc l).length ≤ l.length + 1
  | [], acc => by rw [TL.spl_nil]; simp
  | d :: l, acc => by
    by_cases h : d = c
    · rw [spl_hit1 h]
      have := spl_len c l []
      simp only [List.length_cons] at *
      omega
    · rw [spl_miss1 h]
      have := spl_len c l (acc ++ [d])
      simp only [List.length_cons] at *
      omega
theorem spl_mem (c : Nat) (P : Nat → Prop) : ∀ (l acc : List Nat), (∀ z ∈ acc, P z) → (∀ z ∈ l, P z) → ∀ w ∈ TL.spl [c] 0 acc l, w.length ≤ acc.length + l.length ∧ ∀ z ∈ w, P z
  | [], acc, ha, hl, w, hw => by
    rw [TL.spl_nil] at hw
    obtain rfl := List.mem_singleton.mp hw
    exact ⟨by simp, ha⟩
  | d :: l, acc, ha, hl, w, hw => by
    have hl' : ∀ z ∈ l, P z := fun z hz => hl z (List.mem_cons_of_mem _ hz)
    by_cases h : d = c
    · rw [spl_hit1 h] at hw
      rcases List.mem_cons.mp hw with rfl | hw
      · exact ⟨by simp, ha⟩
      · have h2 := spl_mem c P l [] (fun z hz => by cases hz) hl' w hw
        refine ⟨?_, h2.2⟩
        have := h2.1
        simp only [List.length_cons, List.length_nil] at *
        omega
    · rw [spl_miss1 h] at hw
      have h2 := spl_mem c P l (acc ++ [d]) (fun z hz => by
        rcases List.mem_append.mp hz with hz | hz
        · exact ha z hz
        · rw [List.mem_singleton.mp hz]; exact hl d (List.mem_cons_self ..)) hl' w hw
      refine ⟨?_, h2.2⟩
      have := h2.1
      simp only [List.length_cons, List.length_append, List.length_nil] at *
      omega
theorem split_map (x : Str) (c : Nat) (hc : c < 128) : (Txt.split x ⟨#[c]⟩).map TL.tl = TL.spl [c] 0 [] (cl x) :=
  TL.split_spl x ⟨#[c]⟩ (by simp [TL.tl]) (TL.kind_ok (by simp; omega))
theorem parts_len (x : Str) (c : Nat) (hc : c < 128) : (Txt.split x ⟨#[c]⟩).length ≤ x.length + 1 := by
  have h := spl_len c (cl x) []
  rw [← split_map x c hc, List.length_map, len_cl] at h
  exact h
theorem parts_wd {x : Str} (hx : Wd x) (c : Nat) (hc : c < 128) : ∀ w ∈ Txt.split x ⟨#[c]⟩, Wd w ∧ w.length ≤ x.length := fun w hw => by
  have h := spl_mem c (· < 128) (cl x) [] (fun z hz => by cases hz) hx.asc (TL.tl w) (by rw [← split_map x c hc]; exact List.mem_map.mpr ⟨w, hw, rfl⟩)
  have h1 := h.1
  rw [← TL.len_tl, len_cl] at h1
  simp only [List.length_nil, Nat.zero_add] at h1
  exact ⟨⟨Nat.le_trans h1 hx.len, h.2⟩, h1⟩
theorem parts_le {x : Str} (hx : Wd x) (c : Nat) (hc : c < 128) : ∀ w ∈ Txt.split x ⟨#[c]⟩, w.length ≤ x.length := fun w hw => (parts_wd hx c hc w hw).2
def spWords : Sp := fun vs H Q _ => ∃ x : Str, vs = [.str x] ∧ Wd x ∧ ∀ H1 q rs, Xt H H1 → H q = none → ColsAt H1 q (Txt.split x " ") (Txt.split x " ").length rs → Q (.ref q) H1
theorem ok_words_of (T : Txt K mg a) (B : TabT base mg a) : FnOk P w K mg base CX0 1 a.f_words_of a.fd_words_of ["line"] (spWords) := by
  refine T.F_words_of.ok sc_words_of (fun vs H Q E h => ?_) (fun A outer s H vs Q E hr h => ?_)
  · obtain ⟨x, rfl, _⟩ := h
    rfl
  · obtain ⟨x, rfl, hx, q⟩ := h
    refine ⟨_, (pss_cons (ps_set (i := 1) sc_words_of.nd rfl (.inl rfl) (pe_lst pa_nil))
 (pss_cons (ps_set (i := 2) sc_words_of.nd rfl (.inl rfl) pe_int)
 (pss_cons (ps_for PassesOwn.never rfl (Gx.pi_listK (K := K) rfl (pe_split (pv 0) pe_str)) (pg_name (i := 3) sc_words_of.nd rfl (.inl rfl))
  (pss_cons (ps_expr (Gx.pe_bmK (K := K) rfl PySem.F.plainAttrs_list PySem.F.slot_list_append PySem.F.type_list_append mt_append (pv 1) (pa_cons (pe_tup (pa_cons (pv 2) (pa_cons (pv 3) pa_nil))) pa_nil)))
 (pss_one (ps_set (i := 2) sc_words_of.nd rfl (.inl rfl) (pe_op op_add (pe_op op_add (pv 2) (pe_callB call_len_str rfl T.len (by decide +kernel) (pa_cons (pv 3) pa_nil))) pe_int)))))
 (pss_one (ps_ret (pv 1)))))), ?_⟩
    have hxl := hx.len
    have zl : 200001 ≤ sizeLine := by decide
    refine ⟨Nat.zero_le _, fun r hr0 => ⟨_, rfl, ⟨x, rfl⟩, x, _, rfl, rfl, rfl, by omega, fun p hp0 => ?_⟩⟩
    have hpr : p ≠ r := fun z => by rw [z, upd_same] at hp0; cases hp0
    have x0 : Xt H (upd (upd H r (.lst [])) p (.lst ((Txt.split x " ").map V.str))) := (Xt.new hr0).trans (Xt.new hp0)
    have pl := parts_len x 32 (by decide)
    have pw := parts_le hx 32 (by decide)
    refine ⟨p, rfl, ⟨_, .inl (.inl (upd_same ..))⟩, for_list (xs := (Txt.split x " ").map V.str) (fun i σ H' => ∃ (ch : Option V) (rs : List Addr), σ = [some (.str x), some (.ref r), some (.int (colN (Txt.split x " ") i)), ch] ∧ Xt H H' ∧ ColsAt H' r (Txt.split x " ") i rs ∧ H' p = some (.lst ((Txt.split x " ").map V.str)))
      ⟨none, [], rfl, x0, ⟨by rw [upd_ne (fun z => hpr z.symm), upd_same]; rfl, rfl, fun i w r _ h => by cases h⟩, upd_same ..⟩ (fun i σ H' _ ⟨ch, rs, e, xt, hc, hp⟩ => .inl (.inl hp)) (fun i v σ H' hv hh => ?_) (fun σ H' hh => ?_)⟩
    · obtain ⟨ch, rs, rfl, xt, hc, hp⟩ := hh
      rw [List.getElem?_map] at hv
      obtain ⟨w, hw, rfl⟩ := Option.map_eq_some_iff.mp hv
      have hi := (List.getElem?_eq_some_iff.mp hw).1
      have hwl := pw w (List.mem_of_getElem? hw)
      refine ⟨_, rfl, .inl ⟨rfl, _, .inl (.inl hc.lst)⟩, _, rfl, _, rfl, by show 2 ≤ sizeLine; decide, fun t ht => ⟨r, _, _, rfl, rfl, (by rw [upd_ne (ne_of_none hc.lst ht)]; exact hc.lst), (by rw [List.length_map, hc.len]; have pl' : (Txt.split x " ").length ≤ x.length + 1 := pl; omega), ?_⟩⟩
      refine ⟨_, rfl, _, rfl, w, rfl, (by omega), _, _, rfl, rfl, _, _, rfl, rfl, some (.str w), rs ++ [t], ?_, (xt.trans (Xt.new ht)).mut hr0, ?_, ?_⟩
      · rw [colN_succ hw]; rfl
      · exact (hc.xt (Xt.new ht)).snoc hw (upd_same ..)
      · rw [upd_ne hpr, upd_ne (ne_of_none hp ht)]; exact hp
    · obtain ⟨ch, rs, rfl, xt, hc, hp⟩ := hh
      rw [List.length_map] at hc
      exact ⟨_, rfl, q _ _ _ xt hr0 hc⟩

end
end K6
set_option Elab.async false
set_option linter.all false
set_option maxRecDepth 100000
set_option maxHeartbeats 4000000
namespace K6
open PySem PySem.Spec PyProof.Rows L2 Gx SX
/-! ### written atoms -/
def rest (w : Str) : Str := (Txt.partition w "(").2.2
def inner (w : Str) : List Str := Txt.split (cutS (rest w) none (some (-1))) ","
def atomO (w : Str) : Option (Str × List Str) :=
  if Txt.endswith (rest w) ")" && nameB (Txt.partition w "(").1 && (inner w).all nameB then some ((Txt.partition w "(").1, inner w) else none
theorem tlq {n : Nat} {x : String} (h : (Str.ofString x).cps.toList = [n]) : (Str.ofString x) = S [n] := by
  rw [← h]
theorem opn : Str.ofString "(" = S [40] := tlq (by decide)
theorem cls : Str.ofString ")" = S [41] := tlq (by decide)
theorem com : Str.ofString "," = S [44] := tlq (by decide)
theorem spc : Str.ofString " " = S [32] := tlq (by decide)
theorem tl_S (l : List Nat) : TL.tl (S l) = l := rfl
theorem cl_S (l : List Nat) : cl (S l) = l := rfl
theorem idx_par {a b : List Nat} (h : 40 ∉ a) : Txt.index0 (S (a ++ 40 :: b)) "(" = some a.length := by
  rw [opn]
  have hy : TL.tl (S [40]) ≠ [] := by simp [TL.tl]
  have h0 : TL.pre [40] ((a ++ 40 :: b).drop a.length) = true := by rw [List.drop_left]; show ([40] == [40]) = true; decide
  unfold Txt.index0
  rcases PySem.StrLaws.occ_head (S (a ++ 40 :: b)) (S [40]) 1 (Nat.le_refl _) with ⟨_, hn⟩ | ⟨i, r, e, hi, hk⟩
  · exact absurd ((TL.at_iff hy a.length).mpr h0) (hn _)
  · rw [e]
    have h1 := (TL.at_iff hy i).mp hi
    have : i = a.length := by
      rcases Nat.lt_trichotomy i a.length with hlt | heq | hgt
      · have h2 := TL.free_of (S := []) (q := 40 :: b) h i hlt
        rw [show TL.tl (S (a ++ 40 :: b)) = a ++ 40 :: b from rfl, show TL.tl (S [40]) = [40] from rfl] at h1
        rw [h2] at h1; cases h1
      · exact heq
      · exact absurd ((TL.at_iff hy a.length).mpr h0) (hk _ hgt)
    rw [this]; rfl
theorem part_par {a b : List Nat} (h : 40 ∉ a) : Txt.partition (S (a ++ 40 :: b)) "(" = (S a, S [40], S b) := by
  rw [opn]
  exact SX.partition_some (by simp) (SX.par_head (sep := []) b h)
theorem part_none {a : List Nat} (h : 40 ∉ a) : Txt.partition (S a) "(" = (S a, S [], S []) := by
  rw [opn]
  exact SX.partition_none (by simp) (SX.par_head_none h)
theorem cut_to (a b : List Nat) : cutS (S (a ++ b)) none (some ((a.length : Nat) : Int)) = S a := by
  rw [C8.cutS_slice]; exact SX.to_app a b rfl
theorem cut_mid (a b : List Nat) : cutS (S (a ++ 40 :: b)) (some ((a.length : Nat) + 1 : Int)) (some (((a ++ 40 :: b).length : Nat) - 1 : Int)) = S b.dropLast := by
  unfold cutS
  have hl : (S (a ++ 40 :: b)).length = a.length + (b.length + 1) := by rw [S_len]; simp
  rw [hl]
  have e1 : ((a.length : Nat) + 1 : Int) = ((a.length + 1 : Nat) : Int) := by omega
  have e2 : (((a ++ 40 :: b).length : Nat) - 1 : Int) = ((a.length + b.length : Nat) : Int) := by simp; omega
  rw [e1, e2, HT.sIx_nat, HT.sIx_nat]
  have e3 : min (a.length + 1) (a.length + (b.length + 1)) = a.length + 1 := by omega
  have e4 : min (a.length + b.length) (a.length + (b.length + 1)) = a.length + b.length := by omega
  rw [e3, e4, show (a.length + b.length - (a.length + 1)) = b.length - 1 by omega, List.dropLast_eq_take]
  show S (((a ++ 40 :: b).drop (a.length + 1)).take (b.length - 1)) = _
  rw [show (a ++ 40 :: b).drop (a.length + 1) = b by rw [← List.drop_drop, List.drop_left]; rfl]
theorem cut_but (b : List Nat) : cutS (S b) none (some (-1)) = S b.dropLast := by
  cases b with
  | nil => decide
  | cons c b =>
    rw [C8.cutS_slice, SX.slice_butlast (by simp), List.dropLast_eq_take]
theorem ends_S (b : List Nat) : Txt.endswith (S b) ")" = decide (b.getLast? = some 41) := by
  rw [cls]
  have hy : TL.tl (S [41]) ≠ [] := by simp [TL.tl]
  have h := TL.at_iff (x := S b) hy ((S b).length - (S [41]).length)
  have hl : (S b).length = b.length := S_len b
  have h1 : (S [41]).length = 1 := rfl
  rw [Bool.eq_iff_iff, decide_eq_true_iff]
  unfold Txt.endswith
  unfold PySem.StrLaws.At at h
  rw [Bool.and_eq_true, decide_eq_true_iff]
  rw [hl, h1] at h ⊢
  rcases List.eq_nil_or_concat b with rfl | ⟨l, c, rfl⟩
  · simp
  · rw [List.concat_eq_append] at *
    have e : (l ++ [c]).length - 1 = l.length := by simp
    rw [e] at h ⊢
    have e2 : TL.pre (TL.tl (S [41])) ((TL.tl (S (l ++ [c]))).drop l.length) = decide (c = 41) := by
      rw [show TL.tl (S (l ++ [c])) = l ++ [c] from rfl, List.drop_left]
      exact pre_one c 41 []
    rw [e2] at h
    rw [List.getLast?_append, List.getLast?_singleton]
    simp only [List.length_append, List.length_cons, List.length_nil] at h ⊢
    simp only [decide_eq_true_iff] at h
    constructor
    · intro ⟨_, z⟩
      have := h.mp ⟨by omega, z⟩
      subst this; rfl
    · intro z
      have : c = 41 := by simpa using z
      exact ⟨by omega, (h.mpr this).2⟩
theorem at_open (l : List Nat) : 40 ∉ l ∨ ∃ a b, l = a ++ 40 :: b ∧ 40 ∉ a := by
  by_cases h : 40 ∈ l
  · obtain ⟨a, b, e, hn⟩ := List.eq_append_cons_of_mem h
    exact .inr ⟨a, b, e, hn⟩
  · exact .inl h
theorem atomO_none {l : List Nat} (h : 40 ∉ l) : atomO (S l) = none := by
  unfold atomO rest
  rw [part_none h]
  rw [if_neg]
  rw [ends_S]
  simp
theorem atomO_some {a b : List Nat} (h : 40 ∉ a) : atomO (S (a ++ 40 :: b)) = if decide (b.getLast? = some 41) && nameB (S a) && (Txt.split (S b.dropLast) ",").all nameB then some (S a, Txt.split (S b.dropLast) ",") else none := by
  unfold atomO inner rest
  rw [part_par h, ends_S, cut_but]
/-- what the law reckons -/
theorem name_len {w : Str} (h : nameB w = true) : 1 ≤ w.length := by
  unfold nameB lenB at h
  simp only [Bool.and_eq_true, decide_eq_true_iff] at h
  omega
theorem atomO_short {w : Str} (h : w.length < 4) : atomO w = none := by
  rw [← S_tl w]
  rcases at_open w.cps.toList with hn | ⟨a, b, e, hn⟩
  · exact atomO_none hn
  · rw [e, atomO_some hn, if_neg]
    intro z
    simp only [Bool.and_eq_true, decide_eq_true_iff] at z
    obtain ⟨⟨z1, z2⟩, z3⟩ := z
    have h1 := name_len z2
    rw [S_len] at h1
    have h2 : w.length = a.length + (b.length + 1) := by rw [← len_cl]; show w.cps.toList.length = _; rw [e]; simp
    have h3 : b.dropLast = [] := by
      have : b.dropLast.length = 0 := by rw [List.length_dropLast]; omega
      exact List.length_eq_zero_iff.mp this
    rw [h3] at z3
    have e4 : Txt.split (S []) "," = [S []] := by decide
    rw [e4] at z3
    have : nameB (S []) = false := by decide
    simp [this] at z3
theorem atomO_end {w : Str} {l : List Nat} {c : Nat} (e : cl w = l ++ [c]) (h : c ≠ 41) : atomO w = none := by
  rw [← S_tl w]
  rcases at_open w.cps.toList with hn | ⟨a, b, e2, hn⟩
  · exact atomO_none hn
  · rw [e2, atomO_some hn, if_neg]
    intro z
    simp only [Bool.and_eq_true, decide_eq_true_iff] at z
    have z1 := z.1.1
    have e3 : (a ++ 40 :: b).getLast? = some c := by rw [← e2, show w.cps.toList = l ++ [c] from e, List.getLast?_append]; rfl
    cases b with
    | nil => cases z1
    | cons d b =>
      rw [List.getLast?_append, List.getLast?_cons_cons, z1] at e3
      exact h (by simpa using e3.symm)
theorem atomO_open {w : Str} (h : 40 ∉ cl w) : atomO w = none := by
  rw [← S_tl w]; exact atomO_none h
end K6
set_option Elab.async false
set_option linter.all false
set_option maxRecDepth 100000
set_option maxHeartbeats 4000000
namespace K6
open PySem PySem.Spec PyProof.Rows L2 Gx

open SX
theorem Wd.of_S {w : Str} {l : List Nat} (hw : Wd w) (h : ∀ c ∈ l, c ∈ cl w) (hl : l.length ≤ w.length) : Wd (S l) := ⟨by rw [S_len]; exact Nat.le_trans hl hw.len, fun c hc => hw.asc c (h c hc)⟩
theorem mem_but {b : List Nat} {c : Nat} (h : c ∈ b.dropLast) : c ∈ b := List.dropLast_subset _ h
theorem part_wd {x : Str} (hx : Wd x) : Wd (Txt.partition x "(").1 ∧ Wd (rest x) := by
  obtain ⟨l, rfl⟩ : ∃ l, x = S l := ⟨cl x, (S_tl x).symm⟩
  unfold rest
  rcases at_open l with hn | ⟨a, b, rfl, hn⟩
  · rw [part_none hn]
    exact ⟨hx, ⟨Nat.zero_le _, fun c hc => by cases hc⟩⟩
  · rw [part_par hn]
    refine ⟨hx.of_S (fun c hc => List.mem_append_left _ hc) (by rw [S_len]; simp), hx.of_S (fun c hc => List.mem_append_right _ (List.mem_cons_of_mem _ hc)) (by rw [S_len]; simp; omega)⟩
theorem but_wd {x : Str} (hx : Wd x) : Wd (cutS x none (some (-1))) := by
  obtain ⟨l, rfl⟩ : ∃ l, x = S l := ⟨cl x, (S_tl x).symm⟩
  rw [cut_but]
  exact hx.of_S (fun c hc => mem_but hc) (by rw [S_len]; simp)
theorem inner_wd {x : Str} (hx : Wd x) : ∀ w ∈ inner x, Wd w := fun w hw => (parts_wd (but_wd (part_wd hx).2) 44 (by decide) w hw).1
theorem new_ne {H : Hp} {u t : Addr} {o : HO} (h : upd H u o t = none) : t ≠ u := fun z => by rw [z, upd_same] at h; cases h
theorem sz2 : 2 ≤ sizeLine := by decide
/-- what is handed back: None, or a new pair of the name and the tuple of the names -/
def Got (H : Hp) (o : Option (Str × List Str)) (Q : VK) : Prop := ∀ H1, Xt H H1 → (o = none → Q .non H1) ∧
  ∀ nm ns t u, o = some (nm, ns) → H1 t = some (.tup [.str nm, .ref u]) → H1 u = some (.tup (ns.map V.str)) → Q (.ref t) H1
section
variable {P : Program} {w : World} {K : PySem.W.Frag} {mg : Str → Option Value} {base : Heap} {a : Ads}
/-- atom_of -/
def isN (v : V) : Bool := match v with | .str w => nameB w | _ => false
theorem all_isN : ∀ l : List Str, (l.map V.str).all isN = l.all nameB
  | [] => rfl
  | x :: l => by rw [List.map_cons, List.all_cons, List.all_cons, all_isN l]; rfl
def spAtom (a : Ads) : Sp := fun vs H Q _ => ∃ w : Str, vs = [.str w] ∧ Wd w ∧ GxR.TabG H a.P_is_name ∧ GxR.TabG H a.P_atom_of ∧ Got H (atomO w) Q
theorem ok_atom_of (T : Txt K mg a) (B : TabT base mg a) (G_is_name : FnOk P w K mg base CX0 2 a.f_is_name a.fd_is_name ["word"] (spName a)) : FnOk P w K mg base CX0 4 a.f_atom_of a.fd_atom_of ["word"] (spAtom a) := by
  refine T.F_atom_of.ok sc_atom_of (fun vs H Q E h => ?_) (fun A outer s H vs Q E hr h => ?_)
  · obtain ⟨x, rfl, _⟩ := h
    rfl
  · obtain ⟨x, rfl, hx, hT, hA, q⟩ := h
    refine ⟨_, (pss_cons (ps_asg (pe_partition (pv 0) pe_str) (Gx.pg_tupK (K := K) rfl rfl (pgs_cons (pg_name (i := 1) sc_atom_of.nd rfl (.inl rfl)) (pgs_cons (pg_name (i := 2) sc_atom_of.nd rfl (.inl rfl)) (pgs_cons (pg_name (i := 3) sc_atom_of.nd rfl (.inl rfl)) pgs_nil)))))
 (pss_cons (ps_set (i := 4) sc_atom_of.nd rfl (.inl rfl) (pe_split (pe_slice sl_str (pv 3) po_none (po_some (pe_un un_neg pe_int))) pe_str))
 (pss_cons (ps_if (PW.pt (pw_or (pt_not (pt_val (pe_m1 PySem.F.slot_str_endswith PySem.F.type_str_endswith mt_endswith (pv 3) pe_str))) (pw_or (pt_not (pt_val (pe_call G_is_name (hr.mono (by decide)) rfl T.g_is_name T.F_is_name.kp T.b_is_name .nil pass0 (pa_cons (pv 1) pa_nil)))) (pw_or1 (pt_not (pt_val (Gx.pe_allG (own := ["part"]) (caps := []) (cix := []) hr rfl T.all B.tab_atom_of rfl (Gx.gxs_by (sc := defScope s_atom_of) (N := ["word", "name", "_", "rest", "names"]) (by decide +kernel)) (Gx.pi_listK (K := K) rfl (pv 4)) (fun A s H C cl code bi fp pn hr' => (pg_name (i := 0) (Gx.ndw (own := ["part"]) (caps := []) (by decide +kernel)) rfl (.inl rfl))) (fun A s H C cl code bi fp pn hr' => pts_nil) (fun A s H C cl code bi fp pn hr' => (pe_call G_is_name (hr'.mono (by decide)) rfl T.g_is_name T.F_is_name.kp T.b_is_name .nil pass0 (pa_cons (pv 0) pa_nil))))))))))
  (pss_one (ps_ret pe_non))
  pss_nil)
 (pss_one (ps_ret (pe_tup (pa_cons (pv 1) (pa_cons (pe_callTy (Gx.call_tuple_ofK (K := K) rfl) rfl T.tuple (by decide +kernel) (pa_cons (pv 4) pa_nil)) pa_nil)))))))), ?_⟩
    have hz : x.length + 2 ≤ sizeLine := Nat.le_trans (Nat.add_le_add_right hx.len 2) (by decide)
    obtain ⟨w1, w2⟩ := part_wd hx
    have w3 := but_wd w2
    have hz3 : (cutS (rest x) none (some (-1))).length + 2 ≤ sizeLine := Nat.le_trans (Nat.add_le_add_right w3.len 2) (by decide)
    refine ⟨_, rfl, ⟨x, rfl⟩, x, _, rfl, rfl, rfl, hx.big, fun p hp => ⟨p, _, rfl, .inl (.inl (upd_same ..)), rfl, _, _, rfl, _, _, rfl, _, _, rfl, rfl, ?_⟩⟩
    have x1 := Xt.new (o := .tup [.str (Txt.partition x "(").1, .str (Txt.partition x "(").2.1, .str (Txt.partition x "(").2.2]) hp
    refine ⟨_, rfl, 1, rfl, _, rfl, rest x, rfl, w2.big, ⟨_, rfl⟩, _, _, rfl, rfl, rfl, hz3, fun r hr0 => ?_⟩
    have x2 := x1.trans (Xt.new (o := .lst ((inner x).map V.str)) hr0)
    refine ⟨_, rfl, ⟨_, rfl⟩, rest x, _, rfl, rfl, _, rfl, ite2 (fun h1 => ?_) (fun h1 => ?_)⟩
    · have h1' : Txt.endswith (rest x) ")" = false := by simpa using h1
      exact iteT ((q _ x2).1 (by unfold atomO; rw [h1']; rfl))
    · have h1' : Txt.endswith (rest x) ")" = true := by simpa using h1
      refine ⟨_, rfl, _, rfl, w1, x2.tabG hT, fun H3 y3 => ?_⟩
      have x3 := x2.trans y3
      refine ⟨_, rfl, ite2 (fun h2 => ?_) (fun h2 => ?_)⟩
      · have h2' : nameB (Txt.partition x "(").1 = false := by simpa using h2
        exact iteT ((q _ x3).1 (by unfold atomO; rw [h1', h2']; rfl))
      · have h2' : nameB (Txt.partition x "(").1 = true := by simpa using h2
        have hq : H3 r = some (.lst ((inner x).map V.str)) := y3.lst (upd_same ..)
        refine ⟨_, rfl, r, rfl, ⟨_, .inl (.inl hq)⟩, x3.tabG hA, fun H4 t4 => ?_⟩
        have y4 : Xt H3 H4 := Xt.tabbed (x3.tabG hA) t4
        refine gx_all_list isN (.inl (.inl (y4.lst hq))) (fun v hv H5 N y5 k => ?_) (fun H5 y5 => ?_)
        · obtain ⟨z, hz, rfl⟩ := List.mem_map.mp hv
          exact ⟨wk_set rfl, _, rfl, z, rfl, inner_wd hx z hz, ((x3.trans y4).trans y5).tabG hT, fun H6 y6 => ⟨_, rfl, k H6 (y5.trans y6)⟩⟩
        · have x5 := (x3.trans y4).trans y5
          rw [all_isN]
          refine ⟨_, rfl, ite2 (fun h3 => ?_) (fun h3 => ?_)⟩
          · have h3' : (inner x).all nameB = false := by simpa using h3
            exact (q _ x5).1 (by unfold atomO; rw [h1', h2', h3']; rfl)
          · have h3' : (inner x).all nameB = true := by
              cases e : (inner x).all nameB
              · rw [e] at h3; exact absurd rfl h3
              · rfl
            have hq5 : H5 r = some (.lst ((inner x).map V.str)) := y5.lst (y4.lst hq)
            refine ⟨_, rfl, _, rfl, r, _, rfl, .inl ⟨.inl (.inl hq5), fun u hu => ⟨sz2, fun t ht => ?_⟩⟩⟩
            refine (q _ ((x5.trans (Xt.new hu)).trans (Xt.new ht))).2 (Txt.partition x "(").1 (inner x) t u ?_ (upd_same ..) ?_
            · unfold atomO; rw [h1', h2', h3']; rfl
            · rw [upd_ne (new_ne ht).symm, upd_same]

/-- _law_written -/
theorem sub_len (n : Nat) (h : 1 ≤ n) : ((n : Nat) : Int) - 1 = ((n - 1 : Nat) : Int) := by omega
theorem eqv_nilS {l : List PyData} : PyData.eqv (.list l) (.list []) = l.isEmpty := eqv_nil
theorem fil_allN (l : List Str) : (((l.filter fun w => !nameB w).map PyData.str)).isEmpty = l.all nameB := by
  induction l with
  | nil => rfl
  | cons c l ih =>
    rw [List.filter_cons, List.all_cons, ← ih]
    cases nameB c <;> rfl
theorem shp_strs {l : List Str} (h : ∀ w ∈ l, Wd w) : SeqAt.shaped (.list (l.map PyData.str)) = true := by
  refine shp_list fun d hd => ?_
  obtain ⟨w, hw, rfl⟩ := List.mem_map.mp hd
  refine ⟨?_, Nat.zero_le _⟩
  show (w.cps.all fun z => decide (z < 0x110000)) = true
  rw [← Array.all_toList, List.all_eq_true]
  intro c hc
  have := (h w hw).asc c hc
  exact decide_eq_true (by omega)
theorem fil_isN (l : List Str) : (l.map V.str).filter (fun v => !isN v) = (l.filter fun w => !nameB w).map V.str := by
  induction l with
  | nil => rfl
  | cons c l ih =>
    rw [List.map_cons, List.filter_cons, List.filter_cons, ih]
    show (if (!nameB c) = true then _ else _) = _
    cases nameB c <;> rfl
def spWrit : Sp := fun vs H Q _ => ∃ w : Str, vs = [.str w] ∧ Wd w ∧ Got H (atomO w) Q
theorem ok__law_written (T : Txt K mg a) (B : TabT base mg a) (G__law_name : FnOk P w K mg base CX0 1 a.f__law_name a.fd__law_name ["word"] (spLname)) (G__law_parted : FnOk P w K mg base CX0 1 a.f__law_parted a.fd__law_parted ["text", "sign"] (spParted)) : FnOk P w K mg base CX0 2 a.f__law_written a.fd__law_written ["word"] (spWrit) := by
  refine T.F__law_written.ok sc__law_written (fun vs H Q E h => ?_) (fun A outer s H vs Q E hr h => ?_)
  · obtain ⟨x, rfl, _⟩ := h
    rfl
  · obtain ⟨x, rfl, hx, q⟩ := h
    refine ⟨_, (pss_cons (ps_if (PW.pt (pw_or (pt_cmpR op_lt (pe_callB call_len_str rfl T.len (by decide +kernel) (pa_cons (pv 0) pa_nil)) pe_int (nomark _)) (pw_or (pt_cmpR op_ne (pe_ix ix_str (pv 0) (pe_op op_sub (pe_callB call_len_str rfl T.len (by decide +kernel) (pa_cons (pv 0) pa_nil)) pe_int) (fun _ _ => rfl)) pe_str (nomark _)) (pw_or1 (pt_cmpR op_notIn_sign pe_str (pv 0) rfl)))))
  (pss_one (ps_ret pe_non))
  pss_nil)
 (pss_cons (ps_set (i := 1) sc__law_written.nd rfl (.inl rfl) (Gx.pe_bmSK (K := K) rfl PySem.F.plainAttrs_str PySem.F.slot_str_index PySem.F.type_str_index (mt_indexX rfl Gx.tk_dead) (pv 0) (pa_cons pe_str pa_nil)))
 (pss_cons (ps_set (i := 2) sc__law_written.nd rfl (.inl rfl) (pe_call G__law_parted (hr.mono (by decide)) rfl T.g__law_parted T.F__law_parted.kp T.b__law_parted .nil pass0 (pa_cons (pe_slice sl_str (pv 0) (po_some (pe_op op_add (pv 1) pe_int)) (po_some (pe_op op_sub (pe_callB call_len_str rfl T.len (by decide +kernel) (pa_cons (pv 0) pa_nil)) pe_int))) (pa_cons pe_str pa_nil))))
 (pss_cons (ps_if (PW.pt (pw_or (pt_not (pt_val (pe_call G__law_name (hr.mono (by decide)) rfl T.g__law_name T.F__law_name.kp T.b__law_name .nil pass0 (pa_cons (pe_slice sl_str (pv 0) po_none (po_some (pv 1))) pa_nil)))) (pw_or1 (pt_cmpR (Gx.op_neDK (K := K) rfl hr.units) (pe_lc (own := [("name", 3)]) rfl sc__law_written.nd (Gx.pi_listK (K := K) rfl (pv 2)) (blkOk_by (own := [("name", 3)]) (N := ["word", "place", "names", "name"]) (sc := defScope s__law_written) (by decide +kernel)) (fun _ _ _ _ _ => (pg_name (i := 3) sc__law_written.nd rfl (.inl rfl))) (fun _ _ _ _ _ => (pts_one (pt_not (pt_val (pe_call G__law_name (hr.mono (by decide)) rfl T.g__law_name T.F__law_name.kp T.b__law_name .nil pass0 (pa_cons (pv 3) pa_nil)))))) (fun _ _ _ _ _ => (pv 3))) (pe_lst pa_nil) (nomark _)))))
  (pss_one (ps_ret pe_non))
  pss_nil)
 (pss_one (ps_ret (pe_tup (pa_cons (pe_slice sl_str (pv 0) po_none (po_some (pv 1))) (pa_cons (pe_callTy (Gx.call_tuple_ofK (K := K) rfl) rfl T.tuple (by decide +kernel) (pa_cons (pv 2) pa_nil)) pa_nil))))))))), ?_⟩
    refine ⟨_, rfl, x, rfl, hx.big, _, _, rfl, rfl, _, rfl, ite2 (fun h1 => ?_) (fun h1 => ?_)⟩
    · have h1' : x.length < 4 := by have h : ((x.length : Int) < 4) := of_decide_eq_true h1; omega
      exact (q _ (Xt.refl H)).1 (atomO_short h1')
    · have h1' : 4 ≤ x.length := by have h : ¬ ((x.length : Int) < 4) := fun z => h1 (decide_eq_true z); omega
      obtain ⟨l, c, hl⟩ : ∃ l c, cl x = l ++ [c] := by
        rcases List.eq_nil_or_concat (cl x) with h | ⟨l, c, h⟩
        · have := len_cl x; rw [h] at this; simp at this; omega
        · exact ⟨l, c, by rw [h, List.concat_eq_append]⟩
      have hll : x.length = l.length + 1 := by rw [← len_cl, hl]; simp
      refine ⟨_, rfl, _, rfl, x, rfl, hx.big, _, _, rfl, rfl, x, _, c, rfl, rfl, hx.big, ?_, rfl, ?_⟩
      · rw [sub_len _ (by omega)]; exact atI_nat (by rw [show x.cps.toList = l ++ [c] from hl, hll]; simp)
      · refine ⟨_, rfl, ite2 (fun h2 => ?_) (fun h2 => ?_)⟩
        · have h2' : c ≠ 41 := fun z => by
            have h : (!decide (V.str ⟨#[c]⟩ = V.str (Str.ofString ")"))) = true := h2
            rw [z, decide_eq_true (show V.str ⟨#[41]⟩ = V.str (Str.ofString ")") by rw [cls])] at h
            cases h
          exact iteT ((q _ (Xt.refl H)).1 (atomO_end hl h2'))
        · refine ⟨_, rfl, 40, x, by rw [opn], rfl, _, rfl, ite2 (fun h3 => ?_) (fun h3 => ?_)⟩
          · have h3' : 40 ∉ cl x := by
              have h : (!decide (40 ∈ cl x)) = true := h3
              simpa using h
            exact (q _ (Xt.refl H)).1 (atomO_open h3')
          · have h3' : 40 ∈ cl x := by
              have h : ¬ (!decide (40 ∈ cl x)) = true := h3
              simpa using h
            obtain ⟨a1, b1, e1, hn⟩ := List.eq_append_cons_of_mem h3'
            obtain rfl : x = S (a1 ++ 40 :: b1) := by rw [← e1]
            have hxl : (S (a1 ++ 40 :: b1)).length = (a1 ++ 40 :: b1).length := S_len _
            have hb : b1.getLast? = some 41 := by
              have e2 : a1 ++ 40 :: b1 = l ++ [c] := hl
              have e3 : (a1 ++ 40 :: b1).getLast? = some c := by rw [e2, List.getLast?_append]; rfl
              have h2' : c = 41 := by
                have h : ¬ (!decide (V.str ⟨#[c]⟩ = V.str (Str.ofString ")"))) = true := h2
                rw [cls] at h
                have h' : V.str ⟨#[c]⟩ = V.str (S [41]) := by simpa using h
                exact cps_inj.mp h'
              cases b1 with
              | nil => rw [List.getLast?_append] at e3; rw [h2'] at e3; cases e3
              | cons d b => rw [List.getLast?_append, List.getLast?_cons_cons, h2'] at e3; simpa using e3
            have wa : Wd (S a1) := hx.of_S (fun c hc => List.mem_append_left _ hc) (by rw [S_len]; simp)
            have wb : Wd (S b1.dropLast) := hx.of_S (fun c hc => List.mem_append_right _ (List.mem_cons_of_mem _ (mem_but hc))) (by rw [S_len]; simp; omega)
            have hat := atomO_some (b := b1) hn
            rw [decide_eq_true hb, Bool.true_and] at hat
            refine ⟨_, rfl, rfl, _, _, rfl, rfl, fun k hk => ?_, fun hk => ?_⟩
            · rw [idx_par hn] at hk
              cases hk
              have hc1 : cutS (S (a1 ++ 40 :: b1)) (some (((a1.length : Nat) : Int) + 1)) (some (((S (a1 ++ 40 :: b1)).length : Int) - 1)) = S b1.dropLast := by rw [hxl]; exact cut_mid a1 b1
              have hc2 : cutS (S (a1 ++ 40 :: b1)) none (some ((a1.length : Nat) : Int)) = S a1 := cut_to a1 (40 :: b1)
              refine ⟨_, rfl, _, rfl, _, _, rfl, rfl, _, rfl, _, rfl, _, rfl, hx.big, _, _, rfl, rfl, _, rfl, _, rfl, hx.big, S b1.dropLast, 44, by rw [← hc1, com]; rfl, wb, by decide, fun H1 r x1 hr0 hr1 => ?_⟩
              have e44 : (⟨#[44]⟩ : Str) = Str.ofString "," := com.symm
              rw [e44] at hr1
              have wn : ∀ w ∈ Txt.split (S b1.dropLast) ",", Wd w := fun w hw => (parts_wd wb 44 (by decide) w (by rw [e44]; exact hw)).1
              refine ⟨_, rfl, _, rfl, _, rfl, _, rfl, hx.big, S a1, by rw [← hc2]; rfl, wa, fun H2 x2 => ⟨_, rfl, ite2 (fun h4 => ?_) (fun h4 => ?_)⟩⟩
              · have h4' : nameB (S a1) = false := by simpa using h4
                exact iteT ((q _ (x1.trans x2)).1 (by rw [hat, h4']; rfl))
              · have h4' : nameB (S a1) = true := by simpa using h4
                have hr2 := x2.lst hr1
                refine ⟨_, rfl, r, rfl, ⟨_, .inl (.inl hr2)⟩, fun D hD => lcf_list (fun v => !isN v) (fun v => v) (.inl (.inl hr2)) hD ?_ (fun v hv H' Y N xt k1 k2 => ?_) (fun H' xt hl3 => ?_)⟩
                · rw [List.length_map]
                  have := parts_len (S b1.dropLast) 44 (by decide)
                  rw [e44] at this
                  exact Nat.le_trans this (Nat.le_trans (Nat.add_le_add_right wb.len 1) (by decide))
                · obtain ⟨z, hz, rfl⟩ := List.mem_map.mp hv
                  exact ⟨rfl, _, rfl, z, rfl, wn z hz, fun H6 y6 => ⟨_, rfl, ite2 (fun e => ⟨_, rfl, k1 _ y6 e⟩) (fun e => k2 _ y6 (eq_false_of_ne_true e))⟩⟩
                · rw [List.map_id', fil_isN] at hl3
                  have x3 := (x1.trans x2).trans xt
                  refine ⟨Nat.zero_le _, fun l2 hl2 => ⟨_, _, .lst (.inl (.inl ((Xt.new hl2).lst hl3))) (dp_strs _), .lst (.inl (.inl (upd_same ..))) .nil, shp_strs (fun w hw => wn w (List.mem_filter.mp hw).1), shp_nil, ?_⟩⟩
                  have x4 := x3.trans (Xt.new (o := .lst []) hl2)
                  have hr4 := (Xt.new (o := .lst []) hl2).lst (xt.lst hr2)
                  rw [eqv_nil, fil_allN]
                  refine ⟨_, rfl, ite2 (fun h5 => ?_) (fun h5 => ?_)⟩
                  · have h5' : (Txt.split (S b1.dropLast) ",").all nameB = false := by simpa using h5
                    exact (q _ x4).1 (by rw [hat, h4', h5']; rfl)
                  · have h5' : (Txt.split (S b1.dropLast) ",").all nameB = true := by
                      cases e : (Txt.split (S b1.dropLast) ",").all nameB
                      · rw [e] at h5; exact absurd rfl h5
                      · rfl
                    refine ⟨_, rfl, _, rfl, _, rfl, _, rfl, hx.big, _, rfl, r, _, rfl, .inl ⟨.inl (.inl hr4), fun u hu => ⟨sz2, fun t ht => ?_⟩⟩⟩
                    refine (q _ ((x4.trans (Xt.new hu)).trans (Xt.new ht))).2 (S a1) (Txt.split (S b1.dropLast) ",") t u ?_ ?_ ?_
                    · rw [hat, h4', h5']; rfl
                    · rw [upd_same, ← hc2]
                    · rw [upd_ne (new_ne ht).symm, upd_same]
            · rw [idx_par hn] at hk; cases hk

end
end K6
set_option Elab.async false
set_option linter.all false
set_option maxRecDepth 100000
set_option maxHeartbeats 4000000
namespace K6
open PySem PySem.Spec PyProof.Rows L2 Gx
section
variable {P : Program} {w : World} {K : PySem.W.Frag} {mg : Str → Option Value} {base : Heap} {a : Ads}
theorem ok__law_take (T : Txt K mg a) (B : TabT base mg a) : FnOk P w K mg base CX0 1 a.f__law_take a.fd__law_take ["draws", "bound"] (spTake) := by
  refine T.F__law_take.ok sc__law_take (fun vs H Q E h => ?_) (fun A outer s H vs Q E hr h => ?_)
  · obtain ⟨d, b, rfl, _⟩ := h
    rfl
  · obtain ⟨d, b, rfl, hb, hd, q⟩ := h
    refine ⟨_, (pss_cons (ps_if (pt_cmpR op_eq (pe_callB (Gx.call_len_seqK (K := K) rfl) rfl T.len (by decide +kernel) (pa_cons (pv 0) pa_nil)) pe_int (nomark _))
  (pss_one (ps_ret pe_int))
  pss_nil)
 (pss_one (ps_ret (pe_op op_modN (pe_callTy call_int1 rfl T.int (by decide +kernel) (pa_cons (Gx.pe_bm0K (K := K) rfl PySem.F.plainAttrs_list PySem.F.slot_list_pop PySem.F.type_list_pop mt_pop (pv 0)) pa_nil)) (pv 1))))), ?_⟩
    obtain ⟨ns, e⟩ := id hd
    refine ⟨_, rfl, d, _, rfl, .inl (.inl (.inl e)), rfl, _, rfl, ite2 (fun h1 => ?_) (fun h1 => ?_)⟩
    · exact q H 0 (Xd.refl hd) (Int.le_refl _) hb
    · have hne : ns ≠ [] := fun z => h1 (by rw [z]; decide)
      rcases List.eq_nil_or_concat ns with h | ⟨l, n, h⟩
      · exact absurd h hne
      rw [List.concat_eq_append] at h
      subst h
      refine ⟨_, rfl, .inl ⟨rfl, _, .inl (.inl e)⟩, d, _, .int n, rfl, rfl, e, by simp, .inl ⟨n, rfl, _, rfl, n, b, rfl, rfl, by omega, ?_⟩⟩
      show Q (.int (n.fmod b)) _
      rw [Int.fmod_eq_emod_of_nonneg _ (by omega)]
      refine q _ _ ?_ (Int.emod_nonneg _ (by omega)) (Int.emod_lt_of_pos _ hb)
      have e2 : (((l ++ [n]).map V.int).dropLast) = l.map V.int := by simp
      rw [e2]
      exact Xd.draw hd

theorem ok__law_pick (T : Txt K mg a) (B : TabT base mg a) (G__law_take : FnOk P w K mg base CX0 1 a.f__law_take a.fd__law_take ["draws", "bound"] (spTake)) : FnOk P w K mg base CX0 2 a.f__law_pick a.fd__law_pick ["draws", "items"] (spPick) := by
  refine T.F__law_pick.ok sc__law_pick (fun vs H Q E h => ?_) (fun A outer s H vs Q E hr h => ?_)
  · obtain ⟨d, q, xs, rfl, _⟩ := h
    rfl
  · obtain ⟨d, q, xs, rfl, hqd, hne, hd, hq, k⟩ := h
    refine ⟨_, (pss_one (ps_ret (pe_ix (Gx.ix_listK (K := K) rfl) (pv 1) (pe_call G__law_take (hr.mono (by decide)) rfl T.g__law_take T.F__law_take.kp T.b__law_take .nil pass0 (pa_cons (pv 0) (pa_cons (pe_callB (Gx.call_len_seqK (K := K) rfl) rfl T.len (by decide +kernel) (pa_cons (pv 1) pa_nil)) pa_nil))) (fun _ _ => rfl)))), ?_⟩
    have hl : 0 < xs.length := List.length_pos_iff.mpr hne
    refine ⟨_, rfl, _, rfl, _, rfl, q, xs, rfl, .inl (.inl (.inl hq)), d, (xs.length : Int), rfl, by omega, hd, fun H1 r x1 h0 h1 => ?_⟩
    obtain ⟨n, rfl⟩ := Int.eq_ofNat_of_zero_le h0
    have hn : n < xs.length := by omega
    exact ⟨q, xs, _, xs[n], rfl, rfl, .inl (.inl (x1.lst hqd hq)), atI_nat (by simp [hn]), k H1 _ x1 (List.getElem_mem hn)⟩

theorem ok__law_draws (T : Txt K mg a) (B : TabT base mg a) : FnOk P w K mg base CX0 1 a.f__law_draws a.fd__law_draws ["script"] (spDraws K) := by
  refine T.F__law_draws.ok sc__law_draws (fun vs H Q E h => ?_) (fun A outer s H vs Q E hr h => ?_)
  · obtain ⟨q0, ns, rfl, _⟩ := h
    rfl
  · obtain ⟨q0, ns, rfl, hs, hn, k⟩ := h
    refine ⟨_, (pss_cons (ps_set (i := 1) sc__law_draws.nd rfl (.inl rfl) (pe_lst pa_nil))
 (pss_cons (ps_for PassesOwn.never rfl (Gx.pi_listK (K := K) rfl (pv 0)) (pg_name (i := 2) sc__law_draws.nd rfl (.inl rfl))
  (pss_cons (ps_set (i := 3) sc__law_draws.nd rfl (.inl rfl) (pe_callB call_abs rfl T.abs (by decide +kernel) (pa_cons (pv 2) pa_nil)))
 (C8.pss_cut (ps_if (pt_cmpR op_lt (pv 3) (pe_op op_pow pe_int pe_int) (nomark _))
  (pss_cons (ps_set (i := 4) sc__law_draws.nd rfl (.inl rfl) (pe_op op_mod (pe_callTy call_int1 rfl T.int (by decide +kernel) (pa_cons (pe_op op_add (pe_op op_mul (pv 3) pe_int) pe_int) pa_nil)) pe_int))
 (pss_cons (ps_expr (Gx.pe_bmK (K := K) rfl PySem.F.plainAttrs_list PySem.F.slot_list_append PySem.F.type_list_append mt_append (pv 1) (pa_cons (pe_op op_mod (pe_callTy call_int1 rfl T.int (by decide +kernel) (pa_cons (pe_op op_add (pe_op op_mul (pv 4) pe_int) (pv 3)) pa_nil)) pe_int) pa_nil)))
 (pss_cons (ps_expr (Gx.pe_bmK (K := K) rfl PySem.F.plainAttrs_list PySem.F.slot_list_append PySem.F.type_list_append mt_append (pv 1) (pa_cons (pe_op op_mod (pe_callTy call_int1 rfl T.int (by decide +kernel) (pa_cons (pe_op op_add (pv 4) (pe_op op_fdiv (pv 3) pe_int)) pa_nil)) pe_int) pa_nil)))
 (pss_one (ps_set (i := 3) sc__law_draws.nd rfl (.inl rfl) pe_int)))))
  pss_nil)
 (pss_one (ps_for PassesOwn.never rfl (pi_range1 rfl T.range (pa_cons pe_int pa_nil)) (pg_name (i := 5) sc__law_draws.nd rfl (.inl rfl))
  (pss_one (ps_if (pt_cmpR op_gt (pv 3) pe_int (nomark _))
  (pss_cons (ps_expr (Gx.pe_bmK (K := K) rfl PySem.F.plainAttrs_list PySem.F.slot_list_append PySem.F.type_list_append mt_append (pv 1) (pa_cons (pe_op op_mod (pe_callTy call_int1 rfl T.int (by decide +kernel) (pa_cons (pv 3) pa_nil)) pe_int) pa_nil)))
 (pss_one (ps_set (i := 3) sc__law_draws.nd rfl (.inl rfl) (pe_op op_fdiv (pv 3) pe_int))))
  pss_nil)))))))
 (pss_cons (ps_set (i := 6) sc__law_draws.nd rfl (.inl rfl) pe_int)
 (C8.pss_cut (ps_if (pt_cmpR op_gt (pe_callB (Gx.call_len_seqK (K := K) rfl) rfl T.len (by decide +kernel) (pa_cons (pv 0) pa_nil)) pe_int (nomark _))
  (pss_one (ps_set (i := 6) sc__law_draws.nd rfl (.inl rfl) (pe_op op_add pe_int (pe_callB call_abs rfl T.abs (by decide +kernel) (pa_cons (pe_ix (Gx.ix_listK (K := K) rfl) (pv 0) pe_int (fun _ _ => rfl)) pa_nil)))))
  pss_nil)
 (pss_cons (ps_for PassesOwn.never rfl (pi_range1 rfl T.range (pa_cons pe_int pa_nil)) (pg_name (i := 5) sc__law_draws.nd rfl (.inl rfl))
  (pss_cons (ps_set (i := 6) sc__law_draws.nd rfl (.inl rfl) (pe_op op_mod (pe_callTy call_int1 rfl T.int (by decide +kernel) (pa_cons (pe_op op_add (pe_op op_mul (pv 6) pe_int) pe_int) pa_nil)) pe_int))
 (pss_one (ps_expr (Gx.pe_bmK (K := K) rfl PySem.F.plainAttrs_list PySem.F.slot_list_append PySem.F.type_list_append mt_append (pv 1) (pa_cons (pe_op op_fdiv (pv 6) pe_int) pa_nil))))))
 (pss_one (ps_ret (Gx.pe_listRevK (K := K) rfl rfl rfl T.list rfl T.reversed (pv 1))))))))), ?_⟩
    have zl : 200001 ≤ sizeLine := by decide
    have app : ∀ (l : List Int) (n : Int), l.map V.int ++ [V.int n] = (l ++ [n]).map V.int := fun l n => by simp
    refine ⟨Nat.zero_le _, fun r hr0 => ⟨_, rfl, q0, rfl, ⟨_, (Xt.new hr0).sqL hs⟩, for_list (xs := ns.map V.int) (fun i σ H' => ∃ (c n f j e : Option V) (ms : List Int), σ = [some (.ref q0), some (.ref r), c, n, f, j, e] ∧ Xt H H' ∧ H' r = some (.lst (ms.map V.int)) ∧ ms.length ≤ 62 * i)
      ⟨none, none, none, none, none, [], rfl, Xt.new hr0, upd_same .., Nat.le_refl _⟩ (fun i σ H' _ ⟨c, n, f, j, e, ms, e1, xt, _⟩ => xt.sqL hs) (fun i v σ H' hv hh => ?_) (fun σ H' hh => ?_)⟩⟩
    · obtain ⟨c, n, f, j, e, ms, rfl, xt, hm, hl⟩ := hh
      rw [List.getElem?_map] at hv
      obtain ⟨z, hz, rfl⟩ := Option.map_eq_some_iff.mp hv
      have hi := (List.getElem?_eq_some_iff.mp hz).1
      refine ⟨_, rfl, _, rfl, ?_⟩
      refine ⟨fun σ2 H2 => ∃ (m : Int) (f : Option V) (ms2 : List Int), σ2 = [some (.ref q0), some (.ref r), some (.int z), some (.int m), f, j, e] ∧ Xt H H2 ∧ H2 r = some (.lst (ms2.map V.int)) ∧ ms2.length ≤ 62 * i + 2, ?_, fun σ2 H2 hh => ?_⟩
      · refine ⟨_, rfl, _, _, rfl, rfl, ⟨by decide, by decide, by decide⟩, _, _, rfl, rfl, _, rfl, ite2 (fun h1 => ?_) (fun h1 => ?_)⟩
        · refine ⟨_, rfl, _, _, rfl, rfl, .inr ⟨by decide, by decide⟩, _, _, rfl, rfl, .inl ⟨_, rfl, _, _, rfl, rfl, (by show (0 : Int) < 2147483647; decide), ?_⟩⟩
          refine ⟨_, rfl, .inl ⟨rfl, _, .inl (.inl hm)⟩, _, rfl, _, _, rfl, rfl, .inr ⟨by decide, by decide⟩, _, rfl, _, _, rfl, rfl, .inl ⟨_, rfl, _, _, rfl, rfl, (by show (0 : Int) < 2147483629; decide), r, _, _, rfl, rfl, hm, by rw [List.length_map]; omega, ?_⟩⟩
          refine ⟨_, rfl, .inl ⟨rfl, _, .inl (.inl (upd_same ..))⟩, _, rfl, _, rfl, _, _, rfl, rfl, ⟨by decide, by decide⟩, _, _, rfl, rfl, .inl ⟨_, rfl, _, _, rfl, rfl, (by show (0 : Int) < 1000003; decide), r, _, _, rfl, rfl, upd_same .., by rw [app, List.length_map, List.length_append]; show _ + 1 < _; omega, ?_⟩⟩
          refine ⟨0, _, _, rfl, ((xt.mut hr0).mut hr0), by rw [upd_same, app, app], ?_⟩
          simp only [List.length_append, List.length_cons, List.length_nil]
          omega
        · exact ⟨_, _, _, rfl, xt, hm, by omega⟩
      · obtain ⟨m, f, ms2, rfl, xt2, hm2, hl2⟩ := hh
        refine ⟨60, rfl, by decide, by decide, for_range (n := 60) (fun l σ H' => ∃ (m : Int) (g : Option V) (ms : List Int), σ = [some (.ref q0), some (.ref r), some (.int z), some (.int m), f, g, e] ∧ Xt H H' ∧ H' r = some (.lst (ms.map V.int)) ∧ ms.length ≤ 62 * i + 2 + l)
          ⟨m, _, ms2, rfl, xt2, hm2, hl2⟩ (fun l σ H' hl hh => ?_) (fun σ H' hh => ?_)⟩
        · obtain ⟨m, g, ms, rfl, xt, hm, hl2⟩ := hh
          refine ⟨_, rfl, _, _, rfl, rfl, _, rfl, ite2 (fun h1 => ?_) (fun h1 => ?_)⟩
          · refine ⟨_, rfl, .inl ⟨rfl, _, .inl (.inl hm)⟩, _, rfl, .inl ⟨_, rfl, _, _, rfl, rfl, (by show (0 : Int) < 997; decide), r, _, _, rfl, rfl, hm, by rw [List.length_map]; omega, ?_⟩⟩
            refine ⟨_, rfl, _, _, rfl, rfl, ⟨by decide, by decide⟩, _, _, _, rfl, xt.mut hr0, by rw [upd_same, app], ?_⟩
            simp only [List.length_append, List.length_cons, List.length_nil]
            omega
          · exact ⟨_, _, _, rfl, xt, hm, by omega⟩
        · obtain ⟨m, g, ms, rfl, xt, hm, hl2⟩ := hh
          exact ⟨_, _, _, _, _, ms, rfl, xt, hm, by omega⟩
    · obtain ⟨c, n, f, j, e, ms, rfl, xt, hm, hl⟩ := hh
      rw [List.length_map] at hl
      refine ⟨fun σ2 H2 => H2 = H' ∧ ∃ sd : Int, σ2 = [some (.ref q0), some (.ref r), c, n, f, j, some (.int sd)], ?_, fun σ2 H2 hh => ?_⟩
      · refine ⟨_, rfl, q0, _, rfl, .inl (xt.sqL hs), _, _, rfl, rfl, _, rfl, ite2 (fun h1 => ?_) (fun h1 => ?_)⟩
        · obtain ⟨z, zs, rfl⟩ : ∃ z zs, ns = z :: zs := by
            cases ns with
            | nil => exact absurd h1 (by decide)
            | cons z zs => exact ⟨z, zs, rfl⟩
          exact ⟨_, rfl, q0, _, 0, _, rfl, rfl, xt.sqL hs, atI_nat (j := 0) rfl, _, rfl, _, _, rfl, rfl, rfl, _, rfl⟩
        · exact ⟨rfl, _, rfl⟩
      · obtain ⟨rfl, sd, rfl⟩ := hh
        refine ⟨160, rfl, by decide, by decide, for_range (n := 160) (fun l σ H' => ∃ (sd : Int) (g : Option V) (ms : List Int), σ = [some (.ref q0), some (.ref r), c, n, f, g, some (.int sd)] ∧ Xt H H' ∧ H' r = some (.lst (ms.map V.int)) ∧ ms.length ≤ 62 * ns.length + l)
          ⟨sd, _, ms, rfl, xt, hm, hl⟩ (fun l σ H' hl hh => ?_) (fun σ H' hh => ?_)⟩
        · obtain ⟨sd, g, ms, rfl, xt, hm, hl2⟩ := hh
          refine ⟨_, rfl, _, _, rfl, rfl, .inr ⟨by decide, by decide⟩, _, _, rfl, rfl, .inl ⟨_, rfl, _, _, rfl, rfl, (by show (0 : Int) < 2147483647; decide), ?_⟩⟩
          refine ⟨_, rfl, .inl ⟨rfl, _, .inl (.inl hm)⟩, _, rfl, _, _, rfl, rfl, ⟨by decide, by decide⟩, r, _, _, rfl, rfl, hm, by rw [List.length_map]; omega, ?_⟩
          refine ⟨_, _, _, rfl, xt.mut hr0, by rw [upd_same, app], ?_⟩
          simp only [List.length_append, List.length_cons, List.length_nil]
          omega
        · obtain ⟨sd, g, ms, rfl, xt, hm, hl2⟩ := hh
          refine ⟨_, rfl, r, _, rfl, .inl (.inl hm), fun q1 hq1 => ?_⟩
          refine k _ q1 (xt.trans (Xt.new hq1)) (xt.free hq1) ⟨ms.reverse, by rw [upd_same, List.map_reverse]⟩

/-- _law_same, by its depth: n turns down -/
theorem bl_ne (b : Bool) : (!decide (V.bl b = V.bl b)) = false := by simp
def spSub : Nat → Sp
  | 0 => fun _ _ _ _ => False
  | n + 1 => spSame n
theorem scal_self {v : V} (h : leafV v = true) : scal v v = true := by cases v <;> first | exact Bool.noConfusion h | rfl
theorem fn_none {k : Nat} {f : Addr} {fd : FuncData} {ps : List Str} : FnOk P w K mg base CX0 k f fd ps (fun _ _ _ _ => False) := ⟨fun _ _ _ _ h => h.elim, fun _ _ _ _ _ _ _ _ _ _ _ _ _ h => h.elim⟩
theorem ok_same1 (T : Txt K mg a) (n : Nat) (G__law_same : FnOk P w K mg base CX0 n a.f__law_same a.fd__law_same ["value", "due"] (spSub n)) :
    FnOk P w K mg base CX0 (n + 1) a.f__law_same a.fd__law_same ["value", "due"] (spSame n) := by
  refine T.F__law_same.ok sc__law_same (fun vs H Q E h => ?_) (fun A outer s H vs Q E hr h => ?_)
  · obtain ⟨v, d, rfl, _⟩ := h
    rfl
  · obtain ⟨v, d, rfl, hs, k⟩ := h
    refine ⟨_, (pss_cons (ps_if (PW.pt (pw_or (pt_val (pe_callB (Gx.call_isiK' (K := K) rfl) rfl T.isinstance (by decide +kernel) (pa_cons (pv 1) (pa_cons (pe_bltn (v := .ty "tuple") rfl T.tuple (by decide +kernel) rfl) pa_nil)))) (pw_or1 (pt_val (pe_callB (Gx.call_isiK' (K := K) rfl) rfl T.isinstance (by decide +kernel) (pa_cons (pv 1) (pa_cons (pe_bltn (v := .ty "list") rfl T.list (by decide +kernel) rfl) pa_nil)))))))
  (pss_cons (ps_if (PW.pt (pw_or (pt_cmpR op_ne (pe_callB (Gx.call_isiK' (K := K) rfl) rfl T.isinstance (by decide +kernel) (pa_cons (pv 1) (pa_cons (pe_bltn (v := .ty "tuple") rfl T.tuple (by decide +kernel) rfl) pa_nil))) (pe_callB (Gx.call_isiK' (K := K) rfl) rfl T.isinstance (by decide +kernel) (pa_cons (pv 0) (pa_cons (pe_bltn (v := .ty "tuple") rfl T.tuple (by decide +kernel) rfl) pa_nil))) (nomark _)) (pw_or1 (pt_cmpR op_ne (pe_callB (Gx.call_isiK' (K := K) rfl) rfl T.isinstance (by decide +kernel) (pa_cons (pv 1) (pa_cons (pe_bltn (v := .ty "list") rfl T.list (by decide +kernel) rfl) pa_nil))) (pe_callB (Gx.call_isiK' (K := K) rfl) rfl T.isinstance (by decide +kernel) (pa_cons (pv 0) (pa_cons (pe_bltn (v := .ty "list") rfl T.list (by decide +kernel) rfl) pa_nil))) (nomark _)))))
  (pss_one (ps_ret pe_bl))
  pss_nil)
 (pss_cons (ps_if (pt_cmpR op_ne (pe_callB (Gx.call_len_seqK (K := K) rfl) rfl T.len (by decide +kernel) (pa_cons (pv 0) pa_nil)) (pe_callB (Gx.call_len_seqK (K := K) rfl) rfl T.len (by decide +kernel) (pa_cons (pv 1) pa_nil)) (nomark _))
  (pss_one (ps_ret pe_bl))
  pss_nil)
 (pss_cons (ps_for PassesOwn.never rfl (pi_range1 rfl T.range (pa_cons (pe_callB (Gx.call_len_seqK (K := K) rfl) rfl T.len (by decide +kernel) (pa_cons (pv 1) pa_nil)) pa_nil)) (pg_name (i := 2) sc__law_same.nd rfl (.inl rfl))
  (pss_one (ps_if (pt_not (pt_val (pe_call G__law_same (hr.mono (Nat.le_refl _)) rfl T.g__law_same T.F__law_same.kp T.b__law_same .nil pass0 (pa_cons (pe_ix (Gx.ix_seqK (K := K) rfl) (pv 0) (pv 2) (fun _ _ => rfl)) (pa_cons (pe_ix (Gx.ix_seqK (K := K) rfl) (pv 1) (pv 2) (fun _ _ => rfl)) pa_nil)))))
  (pss_one (ps_ret pe_bl))
  pss_nil)))
 (pss_one (ps_ret pe_bl)))))
  pss_nil)
 (pss_cons (ps_if (pt_cmpR op_ne (pe_callB (Gx.call_isiK' (K := K) rfl) rfl T.isinstance (by decide +kernel) (pa_cons (pv 1) (pa_cons (pe_bltn (v := .ty "bool") rfl T.bool (by decide +kernel) rfl) pa_nil))) (pe_callB (Gx.call_isiK' (K := K) rfl) rfl T.isinstance (by decide +kernel) (pa_cons (pv 0) (pa_cons (pe_bltn (v := .ty "bool") rfl T.bool (by decide +kernel) rfl) pa_nil))) (nomark _))
  (pss_one (ps_ret pe_bl))
  pss_nil)
 (pss_cons (ps_if (PW.pt (pw_or (pt_cmpR op_ne (pe_callB (Gx.call_isiK' (K := K) rfl) rfl T.isinstance (by decide +kernel) (pa_cons (pv 1) (pa_cons (pe_bltn (v := .ty "int") rfl T.int (by decide +kernel) rfl) pa_nil))) (pe_callB (Gx.call_isiK' (K := K) rfl) rfl T.isinstance (by decide +kernel) (pa_cons (pv 0) (pa_cons (pe_bltn (v := .ty "int") rfl T.int (by decide +kernel) rfl) pa_nil))) (nomark _)) (pw_or1 (pt_cmpR op_ne (pe_callB (Gx.call_isiK' (K := K) rfl) rfl T.isinstance (by decide +kernel) (pa_cons (pv 1) (pa_cons (pe_bltn (v := .ty "str") rfl T.str (by decide +kernel) rfl) pa_nil))) (pe_callB (Gx.call_isiK' (K := K) rfl) rfl T.isinstance (by decide +kernel) (pa_cons (pv 0) (pa_cons (pe_bltn (v := .ty "str") rfl T.str (by decide +kernel) rfl) pa_nil))) (nomark _)))))
  (pss_one (ps_ret pe_bl))
  pss_nil)
 (pss_one (ps_ret (pe_cmpR op_eq (pv 0) (pv 1) (nomark _))))))), ?_⟩
    rcases hs.two with ⟨hv, rfl⟩ | ⟨m, rfl, a1, b1, xs, ys, rfl, rfl, ho, hl, hz, hi⟩
    · refine rd_is (v := v) rfl (leaf_ty hv) (leaf_kit (by simp)) ⟨_, rfl, ?_⟩
      rw [(leaf_seq v).1]
      refine iteF (rd_is (v := v) rfl (leaf_ty hv) (leaf_kit (by simp)) ⟨_, rfl, ?_⟩)
      rw [(leaf_seq v).2]
      refine iteF (rd_ne (v := v) (u := v) rfl (leaf_ty hv) rfl (leaf_ty hv) (leaf_kit (by simp)) (iteF ?_))
      refine rd_ne (v := v) (u := v) rfl (leaf_ty hv) rfl (leaf_ty hv) (leaf_kit (by simp)) (iteF (rd_ne (v := v) (u := v) rfl (leaf_ty hv) rfl (leaf_ty hv) (leaf_kit (by simp)) (iteF ?_)))
      refine ⟨_, rfl, _, rfl, scal_self hv, ?_⟩
      rw [decide_eq_true rfl]
      exact k _ (Xt.refl H)
    · obtain ⟨t, u1, u2, c1, c2, k1, k2, ko⟩ : ∃ t, TyX K H (.ref a1) (.type t) ∧ TyX K H (.ref b1) (.type t) ∧ ∃ c1 c2, kitB t "tuple" = some c1 ∧ kitB t "list" = some c2 ∧ (c1 || c2) = true := by
        rcases ho with ⟨h1, h2⟩ | ⟨h1, h2⟩
        · exact ⟨"tuple", .base (.tup h1), .base (.tup h2), true, false, kit_tt, kit_tl, rfl⟩
        · exact ⟨"list", .base (.lst h1), .base (.lst h2), false, true, kit_lt, kit_ll, rfl⟩
      have ha : H a1 = some (.tup xs) ∨ H a1 = some (.lst xs) := ho.imp (·.1) (·.1)
      have hb : H b1 = some (.tup ys) ∨ H b1 = some (.lst ys) := ho.imp (·.2) (·.2)
      refine rd_or (v := .ref b1) rfl u2 k1 k2 ko (iteT ?_)
      refine rd_ne (v := .ref b1) (u := .ref a1) rfl u2 rfl u1 k1 (iteF (rd_ne (v := .ref b1) (u := .ref a1) rfl u2 rfl u1 k2 (iteF ?_)))
      refine ⟨_, rfl, a1, xs, rfl, seq_sq ha, _, rfl, b1, ys, rfl, seq_sq hb, rfl, _, rfl, ?_⟩
      rw [hl, decide_eq_true rfl]
      refine iteF ⟨_, rfl, b1, ys, rfl, seq_sq hb, (ys.length : Int), rfl, by omega, by omega, for_range (n := ((ys.length : Int)).toNat) (fun i σ H' => ∃ kk : Option V, σ = [some (.ref a1), some (.ref b1), kk] ∧ Xt H H') ⟨none, rfl, Xt.refl H⟩ (fun i σ H' hlt hh => ?_) (fun σ H' hh => ?_)⟩
      · obtain ⟨kk, rfl, xt⟩ := hh
        have h1 : i < ys.length := by omega
        have h2 : i < xs.length := by omega
        have e0 : (0 + (i : Int)) = (i : Int) := by omega
        refine ⟨_, rfl, _, rfl, rd_ix (xt.seq ha) (by rw [e0]; exact atI_nat (List.getElem?_eq_getElem h2)) ⟨_, rfl, _, rfl, rd_ix (xt.seq hb) (by rw [e0]; exact atI_nat (List.getElem?_eq_getElem h1)) ?_⟩⟩
        refine ⟨_, _, rfl, (hi i _ _ (List.getElem?_eq_getElem h2) (List.getElem?_eq_getElem h1)).xt xt, fun H1 x1 => ⟨_, rfl, iteF ⟨_, rfl, xt.trans x1⟩⟩⟩
      · obtain ⟨kk, rfl, xt⟩ := hh
        exact k _ xt

end
end K6
set_option Elab.async false
set_option linter.all false
set_option maxRecDepth 100000
set_option maxHeartbeats 4000000
namespace K6
open PySem PySem.Spec PyProof.Rows L2 Gx

/-- short words -/
structure Sm (n : Nat) (w : Str) : Prop where
  len : w.length ≤ n
  asc : ∀ c ∈ cl w, c < 128
theorem Sm.mono {m n : Nat} {w : Str} (h : Sm m w) (e : m ≤ n) : Sm n w := ⟨Nat.le_trans h.len e, h.asc⟩
theorem Sm.wd {n : Nat} {w : Str} (h : Sm n w) (e : n ≤ 100000) : Wd w := ⟨Nat.le_trans h.len e, h.asc⟩
theorem Sm.app {m n : Nat} {w u : Str} (h : Sm m w) (k : Sm n u) : Sm (m + n) (w ++ u) := by
  refine ⟨?_, fun c hc => ?_⟩
  · rw [TL.len_tl, TL.tl_append, List.length_append, ← TL.len_tl, ← TL.len_tl]
    have := h.len; have := k.len; omega
  · rw [show cl (w ++ u) = cl w ++ cl u from TL.tl_append w u] at hc
    rcases List.mem_append.mp hc with hc | hc
    · exact h.asc c hc
    · exact k.asc c hc
theorem Sm.cut {n : Nat} {w : Str} (h : Sm n w) (lo hi : Option Int) : Sm n (cutS w lo hi) :=
  ⟨Nat.le_trans (cutS_length w lo hi) h.len, fun c hc => h.asc c (by
    unfold cutS at hc
    exact List.mem_of_mem_drop (List.mem_of_mem_take hc))⟩
theorem join_sm {k n : Nat} {y : Str} (hy : Sm k y) : ∀ ys : List Str, (∀ w ∈ ys, Sm n w) → Sm (ys.length * (n + k)) (Txt.join y ys) := by
  intro ys h
  rw [TL.join_eq]
  induction ys with
  | nil => exact ⟨Nat.zero_le _, fun c hc => by cases hc⟩
  | cons x ys ih =>
    have hx := h x (List.mem_cons_self ..)
    have h2 := ih fun w hw => h w (List.mem_cons_of_mem _ hw)
    cases ys with
    | nil => exact hx.mono (by simp)
    | cons z r =>
      show Sm _ (x ++ y ++ Str.join y (z :: r))
      refine ((hx.app hy).app h2).mono ?_
      simp only [List.length_cons, Nat.add_mul]
      omega
theorem sum_le {n : Nat} : ∀ ys : List Str, (∀ w ∈ ys, Sm n w) → (ys.map (·.length)).sum ≤ ys.length * n
  | [], _ => Nat.zero_le _
  | x :: ys, h => by
    have h1 := (h x (List.mem_cons_self ..)).len
    have h2 := sum_le ys fun w hw => h w (List.mem_cons_of_mem _ hw)
    simp only [List.map_cons, List.sum_cons, List.length_cons, Nat.add_mul]
    omega
def smB (n : Nat) (w : Str) : Bool := decide (w.length ≤ n) && (cl w).all fun c => decide (c < 128)
theorem sm_by {n : Nat} {w : Str} (h : smB n w = true) : Sm n w := by
  unfold smB at h
  simp only [Bool.and_eq_true, decide_eq_true_iff, List.all_eq_true] at h
  exact ⟨h.1, h.2⟩
/-- a value that is a short word -/
def SmV (n : Nat) (v : V) : Prop := ∃ w, v = .str w ∧ Sm n w
theorem words_of_sm {n : Nat} : ∀ ys : List V, (∀ v ∈ ys, SmV n v) → ∃ ws : List Str, ys = ws.map V.str ∧ ws.length = ys.length ∧ ∀ w ∈ ws, Sm n w
  | [], _ => ⟨[], rfl, rfl, fun w hw => by cases hw⟩
  | y :: ys, h => by
    obtain ⟨w, rfl, hw⟩ := h y (List.mem_cons_self ..)
    obtain ⟨ws, rfl, hl, hs⟩ := words_of_sm ys fun v hv => h v (List.mem_cons_of_mem _ hv)
    refine ⟨w :: ws, rfl, by simp, fun u hu => ?_⟩
    rcases List.mem_cons.mp hu with rfl | hu
    · exact hw
    · exact hs u hu
theorem signs_sm {z : Str} (hz : ∀ c ∈ cl z, c < 128) : ∀ v ∈ (z.cps.toList.map fun c => V.str ⟨#[c]⟩), SmV 1 v := fun v hv => by
  obtain ⟨c, hc, rfl⟩ := List.mem_map.mp hv
  refine ⟨_, rfl, ⟨Nat.le_refl _, fun e he => ?_⟩⟩
  have : e = c := by simpa using he
  rw [this]; exact hz c hc
def spWord : Sp := fun vs H Q _ => ∃ d : Addr, vs = [.ref d] ∧ Dr H d ∧ ∀ H1 w, Xd d H H1 → Sm 400 w → Q (.str w) H1
def pool : List V := [.str "a", .str "red", .str "ann", .str "z", .str "abcdefghijkl", .str "abcdefghijklm", .str "0", .str "7", .str "12", .str "123456789", .str "A", .str "_", .str "(", .str ")", .str ",", .str ""]
theorem pool_sm : ∀ v ∈ pool, SmV 13 v := by
  intro v hv
  simp only [pool, List.mem_cons, List.not_mem_nil, or_false] at hv
  rcases hv with rfl | rfl | rfl | rfl | rfl | rfl | rfl | rfl | rfl | rfl | rfl | rfl | rfl | rfl | rfl | rfl <;> exact ⟨_, rfl, sm_by (by decide +kernel)⟩
theorem pool5 : cutV pool none (some 5) = [.str "a", .str "red", .str "ann", .str "z", .str "abcdefghijkl"] := by decide +kernel
theorem pool5_sm : ∀ v ∈ cutV pool none (some 5), SmV 12 v := by
  intro v hv
  rw [pool5] at hv
  simp only [List.mem_cons, List.not_mem_nil, or_false] at hv
  rcases hv with rfl | rfl | rfl | rfl | rfl <;> exact ⟨_, rfl, sm_by (by decide +kernel)⟩
section
variable {P : Program} {w : World} {K : PySem.W.Frag} {mg : Str → Option Value} {base : Heap} {a : Ads}
theorem ok__law_word (T : Txt K mg a) (B : TabT base mg a) (G__law_take : FnOk P w K mg base CX0 1 a.f__law_take a.fd__law_take ["draws", "bound"] (spTake)) (G__law_pick : FnOk P w K mg base CX0 2 a.f__law_pick a.fd__law_pick ["draws", "items"] (spPick)) : FnOk P w K mg base CX0 3 a.f__law_word a.fd__law_word ["draws"] (spWord) := by
  refine T.F__law_word.ok sc__law_word (fun vs H Q E h => ?_) (fun A outer s H vs Q E hr h => ?_)
  · obtain ⟨d, rfl, _⟩ := h
    rfl
  · obtain ⟨d, rfl, hd, k⟩ := h
    refine ⟨_, (pss_cons (ps_set (i := 1) sc__law_word.nd rfl (.inr rfl) (pe_lst (pa_cons pe_str (pa_cons pe_str (pa_cons pe_str (pa_cons pe_str (pa_cons pe_str (pa_cons pe_str (pa_cons pe_str (pa_cons pe_str (pa_cons pe_str (pa_cons pe_str (pa_cons pe_str (pa_cons pe_str (pa_cons pe_str (pa_cons pe_str (pa_cons pe_str (pa_cons pe_str pa_nil))))))))))))))))))
 (pss_cons (ps_set (i := 2) sc__law_word.nd rfl (.inl rfl) (pe_call G__law_take (hr.mono (by decide)) rfl T.g__law_take T.F__law_take.kp T.b__law_take .nil pass0 (pa_cons (pv 0) (pa_cons pe_int pa_nil))))
 (pss_cons (ps_if (pt_cmpR op_eq (pv 2) pe_int (nomark _))
  (pss_one (ps_ret (pe_join pe_str (pe_lc (own := [("k", 7)]) rfl sc__law_word.nd (pi_range1 rfl T.range (pa_cons (pe_op op_add pe_int (pe_call G__law_take (hr.mono (by decide)) rfl T.g__law_take T.F__law_take.kp T.b__law_take .nil pass0 (pa_cons (pv 0) (pa_cons pe_int pa_nil)))) pa_nil)) (blkOk_by (own := [("k", 7)]) (N := ["draws", "pool", "kind", "names", "word", "place", "change", "k"]) (sc := defScope s__law_word) (by decide +kernel)) (fun _ _ _ _ _ => (pg_name (i := 7) sc__law_word.nd rfl (.inl rfl))) (fun _ _ _ _ _ => pts_nil) (fun _ _ _ _ _ => (pe_call G__law_pick (hr.mono (by decide)) rfl T.g__law_pick T.F__law_pick.kp T.b__law_pick .nil pass0 (pa_cons (pv 0) (pa_cons (pv 1) pa_nil))))))))
  pss_nil)
 (pss_cons (ps_if (pt_cmpR op_eq (pv 2) pe_int (nomark _))
  (pss_one (ps_ret (pe_join pe_str (pe_lc (own := [("k", 7)]) rfl sc__law_word.nd (pi_range1 rfl T.range (pa_cons (pe_op op_add pe_int (pe_call G__law_take (hr.mono (by decide)) rfl T.g__law_take T.F__law_take.kp T.b__law_take .nil pass0 (pa_cons (pv 0) (pa_cons pe_int pa_nil)))) pa_nil)) (blkOk_by (own := [("k", 7)]) (N := ["draws", "pool", "kind", "names", "word", "place", "change", "k"]) (sc := defScope s__law_word) (by decide +kernel)) (fun _ _ _ _ _ => (pg_name (i := 7) sc__law_word.nd rfl (.inl rfl))) (fun _ _ _ _ _ => pts_nil) (fun _ _ _ _ _ => (pe_call G__law_pick (hr.mono (by decide)) rfl T.g__law_pick T.F__law_pick.kp T.b__law_pick .nil pass0 (pa_cons (pv 0) (pa_cons (pe_callTy (Gx.call_listStr rfl) rfl T.list (by decide +kernel) (pa_cons pe_str pa_nil)) pa_nil))))))))
  pss_nil)
 (pss_cons (ps_if (pt_cmpR op_eq (pv 2) pe_int (nomark _))
  (pss_one (ps_ret (pe_join pe_str (pe_lc (own := [("k", 7)]) rfl sc__law_word.nd (pi_range1 rfl T.range (pa_cons (pe_op op_add pe_int (pe_call G__law_take (hr.mono (by decide)) rfl T.g__law_take T.F__law_take.kp T.b__law_take .nil pass0 (pa_cons (pv 0) (pa_cons pe_int pa_nil)))) pa_nil)) (blkOk_by (own := [("k", 7)]) (N := ["draws", "pool", "kind", "names", "word", "place", "change", "k"]) (sc := defScope s__law_word) (by decide +kernel)) (fun _ _ _ _ _ => (pg_name (i := 7) sc__law_word.nd rfl (.inl rfl))) (fun _ _ _ _ _ => pts_nil) (fun _ _ _ _ _ => (pe_call G__law_pick (hr.mono (by decide)) rfl T.g__law_pick T.F__law_pick.kp T.b__law_pick .nil pass0 (pa_cons (pv 0) (pa_cons (pe_callTy (Gx.call_listStr rfl) rfl T.list (by decide +kernel) (pa_cons pe_str pa_nil)) pa_nil))))))))
  pss_nil)
 (pss_cons (ps_setLc (i := 3) (own := [("k", 7)]) rfl sc__law_word.nd rfl rfl (sw_true rfl rfl rfl (by decide +kernel)) (pi_range1 rfl T.range (pa_cons (pe_op op_add pe_int (pe_call G__law_take (hr.mono (by decide)) rfl T.g__law_take T.F__law_take.kp T.b__law_take .nil pass0 (pa_cons (pv 0) (pa_cons pe_int pa_nil)))) pa_nil)) (blkOk_by (own := [("k", 7)]) (N := ["draws", "pool", "kind", "names", "word", "place", "change", "k"]) (sc := defScope s__law_word) (by decide +kernel)) (fun _ _ _ _ _ => (pg_name (i := 7) sc__law_word.nd rfl (.inl rfl))) (fun _ _ _ _ _ => pts_nil) (fun _ _ _ _ _ => (pe_call G__law_pick (hr.mono (by decide)) rfl T.g__law_pick T.F__law_pick.kp T.b__law_pick .nil pass0 (pa_cons (pv 0) (pa_cons (pe_slice (Gx.sl_listK (K := K) rfl) (pv 1) po_none (po_some pe_int)) pa_nil)))))
 (pss_cons (ps_set (i := 4) sc__law_word.nd rfl (.inl rfl) (pe_op op_add_str (pe_op op_add_str (pe_op op_add_str (pe_call G__law_pick (hr.mono (by decide)) rfl T.g__law_pick T.F__law_pick.kp T.b__law_pick .nil pass0 (pa_cons (pv 0) (pa_cons (pe_slice (Gx.sl_listK (K := K) rfl) (pv 1) po_none (po_some pe_int)) pa_nil))) pe_str) (pe_join pe_str (pv 3))) pe_str))
 (pss_cons (ps_set (i := 5) sc__law_word.nd rfl (.inl rfl) (pe_call G__law_take (hr.mono (by decide)) rfl T.g__law_take T.F__law_take.kp T.b__law_take .nil pass0 (pa_cons (pv 0) (pa_cons (pe_callB call_len_str rfl T.len (by decide +kernel) (pa_cons (pv 4) pa_nil)) pa_nil))))
 (pss_cons (ps_set (i := 6) sc__law_word.nd rfl (.inl rfl) (pe_call G__law_take (hr.mono (by decide)) rfl T.g__law_take T.F__law_take.kp T.b__law_take .nil pass0 (pa_cons (pv 0) (pa_cons pe_int pa_nil))))
 (C8.pss_cut (ps_if (pt_cmpR op_eq (pv 6) pe_int (nomark _))
  (pss_one (ps_set (i := 4) sc__law_word.nd rfl (.inl rfl) (pe_op op_add_str (pe_slice sl_str (pv 4) po_none (po_some (pv 5))) (pe_slice sl_str (pv 4) (po_some (pe_op op_add (pv 5) pe_int)) po_none))))
  pss_nil)
 (C8.pss_cut (ps_if (pt_cmpR op_eq (pv 6) pe_int (nomark _))
  (pss_one (ps_set (i := 4) sc__law_word.nd rfl (.inl rfl) (pe_op op_add_str (pe_op op_add_str (pe_slice sl_str (pv 4) po_none (po_some (pv 5))) (pe_call G__law_pick (hr.mono (by decide)) rfl T.g__law_pick T.F__law_pick.kp T.b__law_pick .nil pass0 (pa_cons (pv 0) (pa_cons (pv 1) pa_nil)))) (pe_slice sl_str (pv 4) (po_some (pv 5)) po_none))))
  pss_nil)
 (pss_one (ps_ret (pv 4)))))))))))))), ?_⟩
    have zl : 200001 ≤ sizeLine := by decide
    refine ⟨by show 16 ≤ sizeLine; decide, fun q hq0 => ?_⟩
    have x0 := (Xt.new (o := .lst pool) hq0).xd hd
    have hqd : q ≠ d := (hd.ne_none hq0).symm
    refine ⟨_, rfl, d, 4, rfl, by decide, x0.dr, fun H1 r x1 r0 r1 => ?_⟩
    have hq1 : H1 q = some (.lst pool) := x1.lst hqd (upd_same ..)
    replace x1 := x0.trans x1
    refine ⟨_, rfl, rfl, _, rfl, ite2 (fun e => ?_) (fun e => ?_)⟩
    · refine ⟨⟨_, rfl⟩, _, rfl, d, 4, rfl, by decide, x1.dr, fun H2 r x2 r0 r1 => ⟨_, _, rfl, rfl, _, rfl, by omega, by omega, fun D hD => ?_⟩⟩
      have hq2 := x2.lst hqd hq1
      replace x2 := x1.trans x2
      refine lcd_range (m := (1 + r).toNat) (SmV 13) x2.dr hD (by omega) (fun i H' Y N hi xd kY => ?_) (fun H' ys xd hD' hl hs => ?_)
      · exact ⟨rfl, _, rfl, _, rfl, d, q, pool, rfl, hqd, by simp [pool], xd.dr, xd.lst hqd hq2, fun H3 v x3 hv => kY H3 v x3 (pool_sm v hv)⟩
      · obtain ⟨ws, rfl, hwl, hws⟩ := words_of_sm ys hs
        have hsum := sum_le ws hws
        have hm : ws.length ≤ 4 := by omega
        have := Nat.mul_le_mul_right 13 hm
        refine ⟨_, D, ws, rfl, rfl, .inl (.inl (.inl hD')), by show _ + ws.length * 0 ≤ _; omega, k _ _ (x2.trans xd) ((join_sm (k := 0) (sm_by (by decide)) ws hws).mono (by simp only [Nat.add_zero]; omega))⟩
    · refine ⟨_, rfl, rfl, _, rfl, ite2 (fun e => ?_) (fun e => ?_)⟩
      · refine ⟨⟨_, rfl⟩, _, rfl, d, 11, rfl, by decide, x1.dr, fun H2 r x2 r0 r1 => ⟨_, _, rfl, rfl, _, rfl, by omega, by omega, fun D hD => ?_⟩⟩
        replace x2 := x1.trans x2
        refine lcd_range (m := (1 + r).toNat) (SmV 1) x2.dr hD (by omega) (fun i H' Y N hi xd kY => ?_) (fun H' ys xd hD' hl hs => ?_)
        · refine ⟨rfl, _, rfl, _, rfl, by decide, fun q2 hq2 => ?_⟩
          have x4 := (Xt.new (o := .lst ((Str.ofString "01234567890").cps.toList.map fun c => V.str ⟨#[c]⟩)) hq2).xd xd.dr
          exact ⟨d, q2, _, rfl, (xd.dr.ne_none hq2).symm, by decide, x4.dr, upd_same .., fun H3 v x3 hv => kY H3 v (x4.trans x3) (signs_sm (by decide) v hv)⟩
        · obtain ⟨ws, rfl, hwl, hws⟩ := words_of_sm ys hs
          have hsum := sum_le ws hws
          have hm : ws.length ≤ 11 := by omega
          refine ⟨_, D, ws, rfl, rfl, .inl (.inl (.inl hD')), by show _ + ws.length * 0 ≤ _; omega, k _ _ (x2.trans xd) ((join_sm (k := 0) (sm_by (by decide)) ws hws).mono (by simp only [Nat.add_zero]; omega))⟩
      · refine ⟨_, rfl, rfl, _, rfl, ite2 (fun e => ?_) (fun e => ?_)⟩
        · refine ⟨⟨_, rfl⟩, _, rfl, d, 14, rfl, by decide, x1.dr, fun H2 r x2 r0 r1 => ⟨_, _, rfl, rfl, _, rfl, by omega, by omega, fun D hD => ?_⟩⟩
          replace x2 := x1.trans x2
          refine lcd_range (m := (1 + r).toNat) (SmV 1) x2.dr hD (by omega) (fun i H' Y N hi xd kY => ?_) (fun H' ys xd hD' hl hs => ?_)
          · refine ⟨rfl, _, rfl, _, rfl, by decide, fun q2 hq2 => ?_⟩
            have x4 := (Xt.new (o := .lst ((Str.ofString "abmz").cps.toList.map fun c => V.str ⟨#[c]⟩)) hq2).xd xd.dr
            exact ⟨d, q2, _, rfl, (xd.dr.ne_none hq2).symm, by decide, x4.dr, upd_same .., fun H3 v x3 hv => kY H3 v (x4.trans x3) (signs_sm (by decide) v hv)⟩
          · obtain ⟨ws, rfl, hwl, hws⟩ := words_of_sm ys hs
            have hsum := sum_le ws hws
            have hm : ws.length ≤ 14 := by omega
            refine ⟨_, D, ws, rfl, rfl, .inl (.inl (.inl hD')), by show _ + ws.length * 0 ≤ _; omega, k _ _ (x2.trans xd) ((join_sm (k := 0) (sm_by (by decide)) ws hws).mono (by simp only [Nat.add_zero]; omega))⟩
        · refine ⟨_, rfl, d, 4, rfl, by decide, x1.dr, fun H2 r x2 r0 r1 => ⟨_, _, rfl, rfl, _, rfl, by omega, by omega, fun D hD => ?_⟩⟩
          have hq2 := x2.lst hqd hq1
          replace x2 := x1.trans x2
          refine lcd_range (m := (1 + r).toNat) (SmV 12) x2.dr hD (by omega) (fun i H' Y N hi xd kY => ?_) (fun H' ys xd hD' hl hs => ?_)
          · refine ⟨rfl, _, rfl, _, rfl, _, rfl, q, pool, rfl, .inl (.inl (xd.lst hqd hq2)), fun p hp => ?_⟩
            have x4 := (Xt.new (o := .lst (cutV pool none (some 5))) hp).xd xd.dr
            exact ⟨d, p, _, rfl, (xd.dr.ne_none hp).symm, (by rw [pool5]; simp), x4.dr, upd_same .., fun H3 v x3 hv => kY H3 v (x4.trans x3) (pool5_sm v hv)⟩
          · obtain ⟨ws, rfl, hwl, hws⟩ := words_of_sm ys hs
            have hsum := sum_le ws hws
            have hm : ws.length ≤ 4 := by omega
            have hDd : D ≠ d := (x2.dr.ne_none hD).symm
            have hq3 := xd.lst hqd hq2
            replace xd := x2.trans xd
            refine ⟨_, rfl, _, rfl, _, rfl, q, pool, rfl, .inl (.inl hq3), fun p hp => ?_⟩
            have x4 := (Xt.new (o := .lst (cutV pool none (some 5))) hp).xd xd.dr
            refine ⟨d, p, _, rfl, (xd.dr.ne_none hp).symm, (by rw [pool5]; simp), x4.dr, upd_same .., fun H3 v x3 hv => ?_⟩
            obtain ⟨w1, rfl, s1⟩ := pool5_sm v hv
            have hD3 : H3 D = some (.lst (ws.map V.str)) := x3.lst hDd ((Xt.new hp).lst hD')
            have hq4 : H3 q = some (.lst pool) := x3.lst hqd ((Xt.new hp).lst hq3)
            replace x3 := (xd.trans x4).trans x3
            have sj : Sm 52 (Txt.join "," ws) := (join_sm (k := 1) (sm_by (by decide)) ws hws).mono (by omega)
            have sa := s1.app (sm_by (n := 1) (w := "(") (by decide))
            have sb := sa.app sj
            have sc := sb.app (sm_by (n := 1) (w := ")") (by decide))
            refine ⟨_, _, rfl, rfl, Nat.le_trans (Nat.add_le_add s1.len (show (Str.ofString "(").length ≤ 1 by decide)) (by decide), ⟨_, rfl⟩, _, rfl, _, D, ws, rfl, rfl, .inl (.inl (.inl hD3)), by show _ + ws.length * 1 ≤ _; omega, ?_⟩
            refine ⟨_, _, rfl, rfl, Nat.le_trans (Nat.add_le_add sa.len sj.len) (by decide), _, _, rfl, rfl, Nat.le_trans (Nat.add_le_add sb.len (show (Str.ofString ")").length ≤ 1 by decide)) (by decide), ?_⟩
            generalize hw : w1 ++ Str.ofString "(" ++ Txt.join "," ws ++ Str.ofString ")" = word at sc
            have hw1 : 1 ≤ word.length := by
              rw [← hw, TL.len_tl, TL.tl_append, List.length_append]
              show 1 ≤ _ + 1
              omega
            refine ⟨_, rfl, _, rfl, word, rfl, Nat.le_trans sc.len (by decide), d, (word.length : Int), rfl, by omega, x3.dr, fun H4 pl x4 p0 p1 => ?_⟩
            have hq5 := x4.lst hqd hq4
            replace x4 := x3.trans x4
            refine ⟨_, rfl, d, 5, rfl, by decide, x4.dr, fun H5 ch x5 c0 c1 => ?_⟩
            have hq6 := x5.lst hqd hq5
            replace x5 := x4.trans x5
            refine ⟨fun σ2 H6 => H6 = H5 ∧ ∃ (u : Str) (kd nm kk : Option V), Sm 150 u ∧ σ2 = [some (.ref d), some (.ref q), kd, nm, some (.str u), some (.int pl), some (.int ch), kk], ?_, fun σ2 H6 hh => ?_⟩
            · refine ⟨_, rfl, rfl, _, rfl, ite2 (fun e => ?_) (fun e => ?_)⟩
              · refine ⟨_, rfl, _, rfl, _, rfl, word, rfl, Nat.le_trans sc.len (by decide), _, rfl, _, rfl, _, _, rfl, rfl, _, rfl, word, rfl, Nat.le_trans sc.len (by decide), _, _, rfl, rfl, Nat.le_trans (Nat.add_le_add (sc.cut ..).len (sc.cut ..).len) (by decide), ?_⟩
                exact ⟨rfl, _, _, _, _, ((sc.cut ..).app (sc.cut ..)).mono (by decide), rfl⟩
              · exact ⟨rfl, _, _, _, _, sc.mono (by decide), rfl⟩
            · obtain ⟨rfl, u, kd, nm, kk, su, rfl⟩ := hh
              refine ⟨fun σ2 H6 => Xd d H H6 ∧ ∃ (u : Str) (σ3 : L2.St), Sm 400 u ∧ σ2[4]? = some (some (.str u)), ?_, fun σ2 H6 hh => ?_⟩
              · refine ⟨_, rfl, rfl, _, rfl, ite2 (fun e => ?_) (fun e => ?_)⟩
                · refine ⟨_, rfl, _, rfl, _, rfl, u, rfl, Nat.le_trans su.len (by decide), _, rfl, _, rfl, d, q, pool, rfl, hqd, by simp [pool], x5.dr, hq6, fun H7 v x7 hv => ?_⟩
                  obtain ⟨w2, rfl, s2⟩ := pool_sm v hv
                  have sd := (su.cut none (some pl)).app s2
                  refine ⟨_, _, rfl, rfl, Nat.le_trans (Nat.add_le_add (su.cut ..).len s2.len) (by decide), _, rfl, _, rfl, _, rfl, u, rfl, Nat.le_trans su.len (by decide), _, _, rfl, rfl, Nat.le_trans (Nat.add_le_add sd.len (su.cut ..).len) (by decide), ?_⟩
                  exact ⟨x5.trans x7, _, [], (sd.app (su.cut ..)).mono (by decide), rfl⟩
                · exact ⟨x5, _, [], su.mono (by decide), rfl⟩
              · obtain ⟨x6, u, σ3, su, hu⟩ := hh
                exact ⟨_, hu, k _ _ x6 su⟩

end
end K6
set_option Elab.async false
set_option linter.all false
set_option maxRecDepth 100000
set_option maxHeartbeats 4000000
namespace K6
open PySem PySem.Spec PyProof.Rows L2 Gx

open SX
def words0 : List V := [.str "", .str "()", .str "a()", .str "a(b)", .str "(b)", .str "a(b)c", .str "a(b))", .str "a((b)"]
theorem words0_sm : ∀ v ∈ words0, SmV 400 v := by
  intro v hv
  simp only [words0, List.mem_cons, List.not_mem_nil, or_false] at hv
  rcases hv with rfl | rfl | rfl | rfl | rfl | rfl | rfl | rfl <;> exact ⟨_, rfl, sm_by (by decide +kernel)⟩
theorem atomO_len {w : Str} (hw : Wd w) {nm : Str} {ns : List Str} (h : atomO w = some (nm, ns)) : ns.length ≤ 1000000 := by
  unfold atomO at h
  split at h
  · cases h
    have := parts_len (cutS (rest w) none (some (-1))) 44 (by decide)
    have h2 := (but_wd (part_wd hw).2).len
    have h3 : (inner w).length ≤ (cutS (rest w) none (some (-1))).length + 1 := this
    omega
  · cases h
theorem same_cols {H : Hp} {q q' : Addr} {ws : List Str} {rs rs' : List Addr} (h : ColsAt H q ws ws.length rs) (h' : ColsAt H q' ws ws.length rs') (hz : ws.length ≤ 1000000) : SameD H 2 (.ref q) (.ref q') := by
  refine .inr ⟨q, q', _, _, rfl, rfl, .inr ⟨h.lst, h'.lst⟩, by rw [List.length_map, List.length_map, h.len, h'.len], by rw [List.length_map, h.len]; exact hz, fun i x y e1 e2 => ?_⟩
  rw [List.getElem?_map] at e1 e2
  obtain ⟨r, hr, rfl⟩ := Option.map_eq_some_iff.mp e1
  obtain ⟨r', hr', rfl⟩ := Option.map_eq_some_iff.mp e2
  have hi : i < ws.length := by rw [← h.len]; exact (List.getElem?_eq_some_iff.mp hr).1
  have hw := List.getElem?_eq_getElem hi
  refine .inr ⟨r, r', _, _, rfl, rfl, .inl ⟨h.itm i _ r hw hr, h'.itm i _ r' hw hr'⟩, rfl, by show 2 ≤ 1000000; decide, fun j x y e1 e2 => ?_⟩
  rw [e1] at e2
  cases e2
  match j, e1 with
  | 0, e1 => cases e1; exact ⟨rfl, rfl⟩
  | 1, e1 => cases e1; exact ⟨rfl, rfl⟩
theorem same_atoms {H : Hp} {t t' u u' : Addr} {nm : Str} {ns : List Str} (h : H t = some (.tup [.str nm, .ref u])) (hu : H u = some (.tup (ns.map V.str))) (h' : H t' = some (.tup [.str nm, .ref u'])) (hu' : H u' = some (.tup (ns.map V.str))) (hz : ns.length ≤ 1000000) :
    SameD H 2 (.ref t) (.ref t') := by
  refine .inr ⟨t, t', _, _, rfl, rfl, .inl ⟨h, h'⟩, rfl, by show 2 ≤ 1000000; decide, fun j x y e1 e2 => ?_⟩
  match j, e1, e2 with
  | 0, e1, e2 => cases e1; cases e2; exact .inl ⟨rfl, rfl⟩
  | 1, e1, e2 =>
    cases e1; cases e2
    refine .inr ⟨u, u', _, _, rfl, rfl, .inl ⟨hu, hu'⟩, rfl, by rw [List.length_map]; exact hz, fun i x y e1 e2 => ?_⟩
    rw [e1] at e2
    cases e2
    rw [List.getElem?_map] at e1
    obtain ⟨w, _, rfl⟩ := Option.map_eq_some_iff.mp e1
    exact ⟨rfl, rfl⟩
def spLaw (K : PySem.W.Frag) (a : Ads) : Sp := fun vs H Q _ => ∃ (q : Addr) (ns : List Int), vs = [.ref q] ∧ SqL K H q (ns.map V.int) ∧ ns.length ≤ 1000 ∧ GxR.TabG H a.P_is_name ∧ GxR.TabG H a.P_is_numeral ∧ GxR.TabG H a.P_atom_of ∧ ∀ H1, Q (.bl true) H1
section
variable {P : Program} {w : World} {K : PySem.W.Frag} {mg : Str → Option Value} {base : Heap} {a : Ads}
theorem ok_law (T : Txt K mg a) (B : TabT base mg a) (G_is_name : FnOk P w K mg base CX0 2 a.f_is_name a.fd_is_name ["word"] (spName a)) (G_is_numeral : FnOk P w K mg base CX0 2 a.f_is_numeral a.fd_is_numeral ["word"] (spNum a)) (G_atom_of : FnOk P w K mg base CX0 4 a.f_atom_of a.fd_atom_of ["word"] (spAtom a)) (G_words_of : FnOk P w K mg base CX0 1 a.f_words_of a.fd_words_of ["line"] (spWords)) (G__law_draws : FnOk P w K mg base CX0 1 a.f__law_draws a.fd__law_draws ["script"] (spDraws K)) (G__law_take : FnOk P w K mg base CX0 1 a.f__law_take a.fd__law_take ["draws", "bound"] (spTake)) (G__law_same : FnOk P w K mg base CX0 3 a.f__law_same a.fd__law_same ["value", "due"] (spSame 2)) (G__law_pick : FnOk P w K mg base CX0 2 a.f__law_pick a.fd__law_pick ["draws", "items"] (spPick)) (G__law_name : FnOk P w K mg base CX0 1 a.f__law_name a.fd__law_name ["word"] (spLname)) (G__law_numeral : FnOk P w K mg base CX0 1 a.f__law_numeral a.fd__law_numeral ["word"] (spLnum)) (G__law_parted : FnOk P w K mg base CX0 1 a.f__law_parted a.fd__law_parted ["text", "sign"] (spParted)) (G__law_written : FnOk P w K mg base CX0 2 a.f__law_written a.fd__law_written ["word"] (spWrit)) (G__law_word : FnOk P w K mg base CX0 3 a.f__law_word a.fd__law_word ["draws"] (spWord)) : FnOk P w K mg base CX0 5 a.f_law a.fd_law ["script"] (spLaw K a) := by
  refine T.F_law.ok sc_law (fun vs H Q E h => ?_) (fun A outer s H vs Q E hr h => ?_)
  · obtain ⟨q, ns, rfl, _⟩ := h
    rfl
  · obtain ⟨q, ns, rfl, hs, hn, t1, t2, t3, k⟩ := h
    refine ⟨_, (pss_cons (ps_set (i := 1) sc_law.nd rfl (.inr rfl) (pe_call G__law_draws (hr.mono (by decide)) rfl T.g__law_draws T.F__law_draws.kp T.b__law_draws .nil pass0 (pa_cons (pv 0) pa_nil)))
 (pss_cons (ps_set (i := 2) sc_law.nd rfl (.inl rfl) (pe_lst (pa_cons pe_str (pa_cons pe_str (pa_cons pe_str (pa_cons pe_str (pa_cons pe_str (pa_cons pe_str (pa_cons pe_str (pa_cons pe_str pa_nil))))))))))
 (pss_cons (ps_set (i := 2) sc_law.nd rfl (.inl rfl) (pe_op op_cat (pv 2) (pe_lc (own := [("k", 3)]) rfl sc_law.nd (pi_range1 rfl T.range (pa_cons pe_int pa_nil)) (blkOk_by (own := [("k", 3)]) (N := ["script", "draws", "words", "k", "word", "line", "due", "column"]) (sc := defScope s_law) (by decide +kernel)) (fun _ _ _ _ _ => (pg_name (i := 3) sc_law.nd rfl (.inl rfl))) (fun _ _ _ _ _ => pts_nil) (fun _ _ _ _ _ => (pe_call G__law_word (hr.mono (by decide)) rfl T.g__law_word T.F__law_word.kp T.b__law_word .nil pass0 (pa_cons (pv 1) pa_nil))))))
 (pss_cons (ps_for PassesOwn.never rfl (Gx.pi_listK (K := K) rfl (pv 2)) (pg_name (i := 4) sc_law.nd rfl (.inl rfl))
  (pss_cons (ps_if (PW.pt (pw_or (pt_not (pt_val (pe_call G__law_same (hr.mono (by decide)) rfl T.g__law_same T.F__law_same.kp T.b__law_same .nil pass0 (pa_cons (pe_call G_is_name (hr.mono (by decide)) rfl T.g_is_name T.F_is_name.kp T.b_is_name .nil pass0 (pa_cons (pv 4) pa_nil)) (pa_cons (pe_call G__law_name (hr.mono (by decide)) rfl T.g__law_name T.F__law_name.kp T.b__law_name .nil pass0 (pa_cons (pv 4) pa_nil)) pa_nil))))) (pw_or1 (pt_not (pt_val (pe_call G__law_same (hr.mono (by decide)) rfl T.g__law_same T.F__law_same.kp T.b__law_same .nil pass0 (pa_cons (pe_call G_is_numeral (hr.mono (by decide)) rfl T.g_is_numeral T.F_is_numeral.kp T.b_is_numeral .nil pass0 (pa_cons (pv 4) pa_nil)) (pa_cons (pe_call G__law_numeral (hr.mono (by decide)) rfl T.g__law_numeral T.F__law_numeral.kp T.b__law_numeral .nil pass0 (pa_cons (pv 4) pa_nil)) pa_nil))))))))
  (pss_one (ps_ret pe_bl))
  pss_nil)
 (pss_one (ps_if (pt_not (pt_val (pe_call G__law_same (hr.mono (by decide)) rfl T.g__law_same T.F__law_same.kp T.b__law_same .nil pass0 (pa_cons (pe_call G_atom_of (hr.mono (by decide)) rfl T.g_atom_of T.F_atom_of.kp T.b_atom_of .nil pass0 (pa_cons (pv 4) pa_nil)) (pa_cons (pe_call G__law_written (hr.mono (by decide)) rfl T.g__law_written T.F__law_written.kp T.b__law_written .nil pass0 (pa_cons (pv 4) pa_nil)) pa_nil)))))
  (pss_one (ps_ret pe_bl))
  pss_nil))))
 (pss_cons (ps_set (i := 5) sc_law.nd rfl (.inl rfl) pe_str)
 (pss_cons (ps_for PassesOwn.never rfl (pi_range1 rfl T.range (pa_cons (pe_call G__law_take (hr.mono (by decide)) rfl T.g__law_take T.F__law_take.kp T.b__law_take .nil pass0 (pa_cons (pv 1) (pa_cons pe_int pa_nil))) pa_nil)) (pg_name (i := 3) sc_law.nd rfl (.inl rfl))
  (pss_one (ps_set (i := 5) sc_law.nd rfl (.inl rfl) (pe_op op_add_str (pe_op op_add_str (pe_op op_add_str (pv 5) (pe_call G__law_pick (hr.mono (by decide)) rfl T.g__law_pick T.F__law_pick.kp T.b__law_pick .nil pass0 (pa_cons (pv 1) (pa_cons (pv 2) pa_nil)))) (pe_slice sl_str pe_str po_none (po_some (pe_call G__law_take (hr.mono (by decide)) rfl T.g__law_take T.F__law_take.kp T.b__law_take .nil pass0 (pa_cons (pv 1) (pa_cons pe_int pa_nil)))))) (pe_slice sl_str pe_str po_none (po_some (pe_call G__law_take (hr.mono (by decide)) rfl T.g__law_take T.F__law_take.kp T.b__law_take .nil pass0 (pa_cons (pv 1) (pa_cons pe_int pa_nil)))))))))
 (pss_cons (ps_set (i := 6) sc_law.nd rfl (.inl rfl) (pe_lst pa_nil))
 (pss_cons (ps_set (i := 7) sc_law.nd rfl (.inl rfl) pe_int)
 (pss_cons (ps_for PassesOwn.never rfl (Gx.pi_listK (K := K) rfl (pe_call G__law_parted (hr.mono (by decide)) rfl T.g__law_parted T.F__law_parted.kp T.b__law_parted .nil pass0 (pa_cons (pv 5) (pa_cons pe_str pa_nil)))) (pg_name (i := 4) sc_law.nd rfl (.inl rfl))
  (pss_cons (ps_expr (Gx.pe_bmK (K := K) rfl PySem.F.plainAttrs_list PySem.F.slot_list_append PySem.F.type_list_append mt_append (pv 6) (pa_cons (pe_tup (pa_cons (pv 7) (pa_cons (pv 4) pa_nil))) pa_nil)))
 (pss_one (ps_set (i := 7) sc_law.nd rfl (.inl rfl) (pe_op op_add (pe_op op_add (pv 7) (pe_callB call_len_str rfl T.len (by decide +kernel) (pa_cons (pv 4) pa_nil))) pe_int)))))
 (pss_one (ps_ret (pe_and (pe_call G__law_same (hr.mono (by decide)) rfl T.g__law_same T.F__law_same.kp T.b__law_same .nil pass0 (pa_cons (pe_call G_words_of (hr.mono (by decide)) rfl T.g_words_of T.F_words_of.kp T.b_words_of .nil pass0 (pa_cons (pv 5) pa_nil)) (pa_cons (pv 6) pa_nil))) (pe_one (pe_call G__law_same (hr.mono (by decide)) rfl T.g__law_same T.F__law_same.kp T.b__law_same .nil pass0 (pa_cons (pe_call G_words_of (hr.mono (by decide)) rfl T.g_words_of T.F_words_of.kp T.b_words_of .nil pass0 (pa_cons pe_str pa_nil)) (pa_cons (pe_lst (pa_cons (pe_tup (pa_cons pe_int (pa_cons pe_str pa_nil))) pa_nil)) pa_nil)))))))))))))))), ?_⟩
    have zl : 200001 ≤ sizeLine := by decide
    refine ⟨_, rfl, q, ns, rfl, hs, hn, fun H1 d x1 d0 hd => ?_⟩
    refine ⟨by show 8 ≤ sizeLine; decide, fun w0 hw0 => ?_⟩
    have x2 := x1.trans (Xt.new (o := .lst words0) hw0)
    have hd2 : Dr (upd H1 w0 (.lst words0)) d := hd.xt (Xt.new hw0)
    have hwd : w0 ≠ d := (hd.ne_none hw0).symm
    refine ⟨_, rfl, 8, rfl, by decide, by decide, fun D hD => ?_⟩
    refine lcd_range (m := 8) (SmV 400) hd2 hD (by decide) (fun i H' Y N hi xd kY => ?_) (fun H3 ys xd hD3 hl hys => ?_)
    · exact ⟨rfl, _, rfl, d, rfl, xd.dr, fun H4 w x4 hw => kY H4 _ x4 ⟨w, rfl, hw⟩⟩
    · have hw3 : H3 w0 = some (.lst words0) := xd.lst hwd (upd_same ..)
      refine ⟨w0, D, _, _, rfl, rfl, hw3, hD3, by rw [hl]; decide, fun p hp => ?_⟩
      have hall : ∀ v ∈ words0 ++ ys, SmV 400 v := fun v hv => (List.mem_append.mp hv).elim (words0_sm v) (hys v)
      have t4 := xd.tabG (x2.tabG t1)
      have t5 := xd.tabG (x2.tabG t2)
      have t6 := xd.tabG (x2.tabG t3)
      have hpd : p ≠ d := (xd.dr.ne_none hp).symm
      have xp := Xt.new (o := .lst (words0 ++ ys)) hp
      refine ⟨_, rfl, p, rfl, ⟨_, .inl (.inl (upd_same ..))⟩, for_list (xs := words0 ++ ys) (fun i σ H' => ∃ (c3 c4 c5 c6 c7 : Option V), σ = [some (.ref q), some (.ref d), some (.ref p), c3, c4, c5, c6, c7] ∧ Xt H3 H' ∧ H' p = some (.lst (words0 ++ ys)))
        ⟨_, _, _, _, _, rfl, xp, upd_same ..⟩ (fun i σ H' _ ⟨_, _, _, _, _, _, _, e⟩ => .inl (.inl e)) (fun i v σ H' hv hh => ?_) (fun σ H' hh => ?_)⟩
      · obtain ⟨c3, c4, c5, c6, c7, rfl, xt, hp4⟩ := hh
        obtain ⟨u, rfl, hu⟩ := hall v (List.mem_of_getElem? hv)
        have wu := hu.wd (by decide)
        have fin : ∀ H9, Xt H' H9 → ∃ (d3 d4 d5 d6 d7 : Option V), [some (.ref q), some (.ref d), some (.ref p), c3, some (.str u), c5, c6, c7] = [some (.ref q), some (.ref d), some (.ref p), d3, d4, d5, d6, d7] ∧ Xt H3 H9 ∧ H9 p = some (.lst (words0 ++ ys)) := fun H9 x9 => ⟨_, _, _, _, _, rfl, xt.trans x9, x9.lst hp4⟩
        refine ⟨_, rfl, u, rfl, wu, xt.tabG t4, fun Ha xa => ⟨_, rfl, u, rfl, wu, fun Hb xb => ⟨_, _, rfl, SameD.leaf rfl 2, fun Hc xc => ⟨_, rfl, iteF ?_⟩⟩⟩⟩
        replace xc := (xa.trans xb).trans xc
        refine ⟨_, rfl, u, rfl, wu, (xt.trans xc).tabG t5, fun Hd xd => ⟨_, rfl, u, rfl, wu, fun He xe => ⟨_, _, rfl, SameD.leaf rfl 2, fun Hf xf => ⟨_, rfl, iteF ?_⟩⟩⟩⟩
        replace xf := ((xc.trans xd).trans xe).trans xf
        refine ⟨_, rfl, u, rfl, wu, (xt.trans xf).tabG t4, (xt.trans xf).tabG t6, fun Hg xg => ⟨fun hn => ?_, fun nm ns t u1 he ht hu1 => ?_⟩⟩
        · refine ⟨_, rfl, u, rfl, wu, fun Hh xh => ⟨fun hn2 => ⟨_, _, rfl, SameD.leaf rfl 2, fun Hi xi => ⟨_, rfl, iteF (fin Hi (((xf.trans xg).trans xh).trans xi))⟩⟩, fun nm ns t u1 he => ?_⟩⟩
          rw [hn] at he; cases he
        · refine ⟨_, rfl, u, rfl, wu, fun Hh xh => ⟨fun hn2 => ?_, fun nm' ns' t' u1' he' ht' hu1' => ?_⟩⟩
          · rw [hn2] at he; cases he
          · rw [he] at he'
            cases he'
            exact ⟨_, _, rfl, same_atoms (xh.tup ht) (xh.tup hu1) ht' hu1' (atomO_len wu he), fun Hi xi => ⟨_, rfl, iteF (fin Hi (((xf.trans xg).trans xh).trans xi))⟩⟩
      · obtain ⟨c3, c4, c5, c6, c7, rfl, xt, hp4⟩ := hh
        have hd4 := xd.dr.xt xt
        refine ⟨_, rfl, d, 6, rfl, by decide, hd4, fun H5 r x5 r0 r1 => ⟨_, rfl, by omega, by omega, ?_⟩⟩
        have hp5 := x5.lst hpd hp4
        refine for_range (n := r.toNat) (fun i σ H' => ∃ (c3 c4 c6 c7 : Option V) (u : Str), σ = [some (.ref q), some (.ref d), some (.ref p), c3, c4, some (.str u), c6, c7] ∧ Xd d H5 H' ∧ Sm (403 * i) u)
          ⟨_, _, _, _, _, rfl, Xd.refl x5.dr, sm_by (by decide)⟩ (fun i σ H' hi hh => ?_) (fun σ H' hh => ?_)
        · obtain ⟨c3, c4, c6, c7, u, rfl, x6, su⟩ := hh
          refine ⟨_, rfl, _, rfl, _, rfl, d, p, _, rfl, hpd, by simp [words0], x6.dr, x6.lst hpd hp5, fun H7 v x7 hv => ?_⟩
          obtain ⟨w1, rfl, s1⟩ := hall v hv
          have sa := su.app s1
          have hz : 403 * i ≤ 3000 := by omega
          refine ⟨_, _, rfl, rfl, Nat.le_trans (Nat.add_le_add su.len s1.len) (by omega), _, rfl, d, 2, rfl, by decide, x7.dr, fun H8 r8 x8 _ _ => ⟨_, rfl, _, rfl, by decide, ?_⟩⟩
          have s2 := (sm_by (n := 1) (w := " ") (by decide)).cut none (some r8)
          have sb := sa.app s2
          refine ⟨_, _, rfl, rfl, Nat.le_trans (Nat.add_le_add sa.len s2.len) (by omega), _, rfl, d, 3, rfl, by decide, x8.dr, fun H9 r9 x9 _ _ => ⟨_, rfl, _, rfl, by decide, ?_⟩⟩
          have s3 := (sm_by (n := 2) (w := "  ") (by decide)).cut none (some r9)
          refine ⟨_, _, rfl, rfl, Nat.le_trans (Nat.add_le_add sb.len s3.len) (by omega), _, _, _, _, _, rfl, ((x6.trans x7).trans x8).trans x9, (sb.app s3).mono (by omega)⟩
        · obtain ⟨c3, c4, c6, c7, u, rfl, x6, su⟩ := hh
          have wu : Wd u := su.wd (by omega)
          have hul := su.len
          have e32 : (⟨#[32]⟩ : Str) = Str.ofString " " := spc.symm
          refine ⟨Nat.zero_le _, fun g hg0 => ⟨_, rfl, u, 32, by rw [spc]; rfl, wu, by decide, fun H7 r9 x7 hr0 hr1 => ⟨r9, rfl, ⟨_, .inl (.inl hr1)⟩, ?_⟩⟩⟩
          rw [e32] at hr1
          have pl : (Txt.split u " ").length ≤ u.length + 1 := by have := parts_len u 32 (by decide); rw [e32] at this; exact this
          have pw : ∀ w ∈ Txt.split u " ", w.length ≤ u.length := by have := parts_le wu 32 (by decide); rw [e32] at this; exact this
          have hg7 : H7 g = some (.lst []) := x7.lst (upd_same ..)
          have hrg : r9 ≠ g := new_ne hr0
          have x8 := (Xt.new (o := .lst []) hg0).trans x7
          refine for_list (xs := (Txt.split u " ").map V.str) (fun i σ H2 => ∃ (ch : Option V) (rs : List Addr), σ = [some (.ref q), some (.ref d), some (.ref p), c3, ch, some (.str u), some (.ref g), some (.int (colN (Txt.split u " ") i))] ∧ Xt H' H2 ∧ ColsAt H2 g (Txt.split u " ") i rs ∧ H2 r9 = some (.lst ((Txt.split u " ").map V.str)))
            ⟨_, [], rfl, x8, ⟨hg7, rfl, fun i w r _ h => by cases h⟩, hr1⟩ (fun i σ H' _ ⟨ch, rs, e, xt, hc, hp⟩ => .inl (.inl hp)) (fun i v σ H2 hv hh => ?_) (fun σ H2 hh => ?_)
          · obtain ⟨ch, rs, rfl, xt, hc, hp⟩ := hh
            rw [List.getElem?_map] at hv
            obtain ⟨w, hw, rfl⟩ := Option.map_eq_some_iff.mp hv
            have hi := (List.getElem?_eq_some_iff.mp hw).1
            have hwl := pw w (List.mem_of_getElem? hw)
            refine ⟨_, rfl, .inl ⟨rfl, _, .inl (.inl hc.lst)⟩, _, rfl, _, rfl, sz2, fun t ht => ⟨g, _, _, rfl, rfl, (by rw [upd_ne (ne_of_none hc.lst ht)]; exact hc.lst), (by rw [List.length_map, hc.len]; omega), ?_⟩⟩
            refine ⟨_, rfl, _, rfl, w, rfl, (by omega), _, _, rfl, rfl, _, _, rfl, rfl, some (.str w), rs ++ [t], ?_, (xt.trans (Xt.new ht)).mut hg0, ?_, ?_⟩
            · rw [colN_succ hw]; rfl
            · exact (hc.xt (Xt.new ht)).snoc hw (upd_same ..)
            · rw [upd_ne hrg, upd_ne (ne_of_none hp ht)]; exact hp
          · obtain ⟨ch, rs, rfl, xt, hc, hp⟩ := hh
            rw [List.length_map] at hc
            refine ⟨_, rfl, u, rfl, wu, fun Ha qa rsa xa _ ca => ⟨_, rfl, _, _, rfl, same_cols ca (hc.xt xa) (by omega), fun Hb xb => ⟨_, rfl, iteT ?_⟩⟩⟩
            refine ⟨Str.ofString "", rfl, ⟨by decide, by decide⟩, fun Hc qc rsc xc _ cc => ⟨sz2, fun t ht => ⟨by show 1 ≤ sizeLine; decide, fun l hl => ⟨_, _, rfl, ?_, fun Hd _ => k Hd⟩⟩⟩⟩
            have hsp : Txt.split (Str.ofString "") (Str.ofString " ") = [Str.ofString ""] := by decide
            rw [hsp] at cc
            refine same_cols (ws := [Str.ofString ""]) (rs' := [t]) (cc.xt ((Xt.new ht).trans (Xt.new hl))) ⟨upd_same .., rfl, fun i w r e1 e2 => ?_⟩ (by decide)
            match i, e1, e2 with
            | 0, e1, e2 =>
              cases e1; cases e2
              rw [upd_ne (new_ne hl).symm, upd_same]
              rfl

end
end K6
set_option Elab.async false
set_option linter.all false
set_option maxRecDepth 100000
set_option maxHeartbeats 4000000
namespace K6
open PySem PySem.Spec PyProof.Rows L2 Gx
/-! ### what the top has left -/
theorem end_mk {l : PySem.W.OpenLaw} {w : World} {K : PySem.W.Frag} {h : Heap} {mg : Str → Option Value} {fa : Addr} (X : K.In h) (G : h.Ns mainGlobals mg) (hfa : mg "law" = some (.ref fa))
    (own : ∀ y ∈ (["is_name", "is_numeral", "atom_of"] : List Str), ∀ f, mg y = some (.ref f) → LamX.OwnTab K f h)
    {f0 c0 : Addr} {od0 an0 : Option Addr} {sl0 : Array (Option Value)} {oc0 kV0 dc0 pm0 ct0 : Value}
    (a0 : PySem.W.nsIn K mainGlobals "words_of" = some (some (.ref f0))) (l0 : K.lookup f0 = some ⟨oc0, od0, .func (PySem.W.fnOf "words_of" "words_of" (defArgs s_words_of) (defBody s_words_of) (defScope s_words_of) .none kV0 dc0 pm0 an0 (.ref c0) ct0), sl0⟩) (c_0 : PySem.W.codeIn K (.ref c0) "words_of" = true) (k0 : PySem.W.keepIn K (.ref f0) = true)
    {f1 c1 : Addr} {od1 an1 : Option Addr} {sl1 : Array (Option Value)} {oc1 kV1 dc1 pm1 ct1 : Value}
    (a1 : PySem.W.nsIn K mainGlobals "is_name" = some (some (.ref f1))) (l1 : K.lookup f1 = some ⟨oc1, od1, .func (PySem.W.fnOf "is_name" "is_name" (defArgs s_is_name) (defBody s_is_name) (defScope s_is_name) .none kV1 dc1 pm1 an1 (.ref c1) ct1), sl1⟩) (c_1 : PySem.W.codeIn K (.ref c1) "is_name" = true) (k1 : PySem.W.keepIn K (.ref f1) = true)
    {f2 c2 : Addr} {od2 an2 : Option Addr} {sl2 : Array (Option Value)} {oc2 kV2 dc2 pm2 ct2 : Value}
    (a2 : PySem.W.nsIn K mainGlobals "is_numeral" = some (some (.ref f2))) (l2 : K.lookup f2 = some ⟨oc2, od2, .func (PySem.W.fnOf "is_numeral" "is_numeral" (defArgs s_is_numeral) (defBody s_is_numeral) (defScope s_is_numeral) .none kV2 dc2 pm2 an2 (.ref c2) ct2), sl2⟩) (c_2 : PySem.W.codeIn K (.ref c2) "is_numeral" = true) (k2 : PySem.W.keepIn K (.ref f2) = true)
    {f3 c3 : Addr} {od3 an3 : Option Addr} {sl3 : Array (Option Value)} {oc3 kV3 dc3 pm3 ct3 : Value}
    (a3 : PySem.W.nsIn K mainGlobals "atom_of" = some (some (.ref f3))) (l3 : K.lookup f3 = some ⟨oc3, od3, .func (PySem.W.fnOf "atom_of" "atom_of" (defArgs s_atom_of) (defBody s_atom_of) (defScope s_atom_of) .none kV3 dc3 pm3 an3 (.ref c3) ct3), sl3⟩) (c_3 : PySem.W.codeIn K (.ref c3) "atom_of" = true) (k3 : PySem.W.keepIn K (.ref f3) = true)
    {f4 c4 : Addr} {od4 an4 : Option Addr} {sl4 : Array (Option Value)} {oc4 kV4 dc4 pm4 ct4 : Value}
    (a4 : PySem.W.nsIn K mainGlobals "_law_draws" = some (some (.ref f4))) (l4 : K.lookup f4 = some ⟨oc4, od4, .func (PySem.W.fnOf "_law_draws" "_law_draws" (defArgs s__law_draws) (defBody s__law_draws) (defScope s__law_draws) .none kV4 dc4 pm4 an4 (.ref c4) ct4), sl4⟩) (c_4 : PySem.W.codeIn K (.ref c4) "_law_draws" = true) (k4 : PySem.W.keepIn K (.ref f4) = true)
    {f5 c5 : Addr} {od5 an5 : Option Addr} {sl5 : Array (Option Value)} {oc5 kV5 dc5 pm5 ct5 : Value}
    (a5 : PySem.W.nsIn K mainGlobals "_law_take" = some (some (.ref f5))) (l5 : K.lookup f5 = some ⟨oc5, od5, .func (PySem.W.fnOf "_law_take" "_law_take" (defArgs s__law_take) (defBody s__law_take) (defScope s__law_take) .none kV5 dc5 pm5 an5 (.ref c5) ct5), sl5⟩) (c_5 : PySem.W.codeIn K (.ref c5) "_law_take" = true) (k5 : PySem.W.keepIn K (.ref f5) = true)
    {f6 c6 : Addr} {od6 an6 : Option Addr} {sl6 : Array (Option Value)} {oc6 kV6 dc6 pm6 ct6 : Value}
    (a6 : PySem.W.nsIn K mainGlobals "_law_same" = some (some (.ref f6))) (l6 : K.lookup f6 = some ⟨oc6, od6, .func (PySem.W.fnOf "_law_same" "_law_same" (defArgs s__law_same) (defBody s__law_same) (defScope s__law_same) .none kV6 dc6 pm6 an6 (.ref c6) ct6), sl6⟩) (c_6 : PySem.W.codeIn K (.ref c6) "_law_same" = true) (k6 : PySem.W.keepIn K (.ref f6) = true)
    {f7 c7 : Addr} {od7 an7 : Option Addr} {sl7 : Array (Option Value)} {oc7 kV7 dc7 pm7 ct7 : Value}
    (a7 : PySem.W.nsIn K mainGlobals "_law_pick" = some (some (.ref f7))) (l7 : K.lookup f7 = some ⟨oc7, od7, .func (PySem.W.fnOf "_law_pick" "_law_pick" (defArgs s__law_pick) (defBody s__law_pick) (defScope s__law_pick) .none kV7 dc7 pm7 an7 (.ref c7) ct7), sl7⟩) (c_7 : PySem.W.codeIn K (.ref c7) "_law_pick" = true) (k7 : PySem.W.keepIn K (.ref f7) = true)
    {f8 c8 : Addr} {od8 an8 : Option Addr} {sl8 : Array (Option Value)} {oc8 kV8 dc8 pm8 ct8 : Value}
    (a8 : PySem.W.nsIn K mainGlobals "_law_name" = some (some (.ref f8))) (l8 : K.lookup f8 = some ⟨oc8, od8, .func (PySem.W.fnOf "_law_name" "_law_name" (defArgs s__law_name) (defBody s__law_name) (defScope s__law_name) .none kV8 dc8 pm8 an8 (.ref c8) ct8), sl8⟩) (c_8 : PySem.W.codeIn K (.ref c8) "_law_name" = true) (k8 : PySem.W.keepIn K (.ref f8) = true)
    {f9 c9 : Addr} {od9 an9 : Option Addr} {sl9 : Array (Option Value)} {oc9 kV9 dc9 pm9 ct9 : Value}
    (a9 : PySem.W.nsIn K mainGlobals "_law_numeral" = some (some (.ref f9))) (l9 : K.lookup f9 = some ⟨oc9, od9, .func (PySem.W.fnOf "_law_numeral" "_law_numeral" (defArgs s__law_numeral) (defBody s__law_numeral) (defScope s__law_numeral) .none kV9 dc9 pm9 an9 (.ref c9) ct9), sl9⟩) (c_9 : PySem.W.codeIn K (.ref c9) "_law_numeral" = true) (k9 : PySem.W.keepIn K (.ref f9) = true)
    {f10 c10 : Addr} {od10 an10 : Option Addr} {sl10 : Array (Option Value)} {oc10 kV10 dc10 pm10 ct10 : Value}
    (a10 : PySem.W.nsIn K mainGlobals "_law_parted" = some (some (.ref f10))) (l10 : K.lookup f10 = some ⟨oc10, od10, .func (PySem.W.fnOf "_law_parted" "_law_parted" (defArgs s__law_parted) (defBody s__law_parted) (defScope s__law_parted) .none kV10 dc10 pm10 an10 (.ref c10) ct10), sl10⟩) (c_10 : PySem.W.codeIn K (.ref c10) "_law_parted" = true) (k10 : PySem.W.keepIn K (.ref f10) = true)
    {f11 c11 : Addr} {od11 an11 : Option Addr} {sl11 : Array (Option Value)} {oc11 kV11 dc11 pm11 ct11 : Value}
    (a11 : PySem.W.nsIn K mainGlobals "_law_written" = some (some (.ref f11))) (l11 : K.lookup f11 = some ⟨oc11, od11, .func (PySem.W.fnOf "_law_written" "_law_written" (defArgs s__law_written) (defBody s__law_written) (defScope s__law_written) .none kV11 dc11 pm11 an11 (.ref c11) ct11), sl11⟩) (c_11 : PySem.W.codeIn K (.ref c11) "_law_written" = true) (k11 : PySem.W.keepIn K (.ref f11) = true)
    {f12 c12 : Addr} {od12 an12 : Option Addr} {sl12 : Array (Option Value)} {oc12 kV12 dc12 pm12 ct12 : Value}
    (a12 : PySem.W.nsIn K mainGlobals "_law_word" = some (some (.ref f12))) (l12 : K.lookup f12 = some ⟨oc12, od12, .func (PySem.W.fnOf "_law_word" "_law_word" (defArgs s__law_word) (defBody s__law_word) (defScope s__law_word) .none kV12 dc12 pm12 an12 (.ref c12) ct12), sl12⟩) (c_12 : PySem.W.codeIn K (.ref c12) "_law_word" = true) (k12 : PySem.W.keepIn K (.ref f12) = true)
    {f13 c13 : Addr} {od13 an13 : Option Addr} {sl13 : Array (Option Value)} {oc13 kV13 dc13 pm13 ct13 : Value}
    (a13 : PySem.W.nsIn K mainGlobals "law" = some (some (.ref f13))) (l13 : K.lookup f13 = some ⟨oc13, od13, .func (PySem.W.fnOf "law" "law" (defArgs s_law) (defBody s_law) (defScope s_law) .none kV13 dc13 pm13 an13 (.ref c13) ct13), sl13⟩) (c_13 : PySem.W.codeIn K (.ref c13) "law" = true) (k13 : PySem.W.keepIn K (.ref f13) = true)
    {P1 : Addr} {te1 : Value} {td1 : Option Addr} {tv1 : Array Value} {ts1 : Array (Option Value)} (t1 : K.lookup c1 = some ⟨te1, td1, .fields tv1, ts1⟩) (u1 : tv1[11]? = some (.ref P1)) (n1 : K.lookup P1 = none) (h1 : hdB te1 tv1 c1 P1 = true)
    {P2 : Addr} {te2 : Value} {td2 : Option Addr} {tv2 : Array Value} {ts2 : Array (Option Value)} (t2 : K.lookup c2 = some ⟨te2, td2, .fields tv2, ts2⟩) (u2 : tv2[11]? = some (.ref P2)) (n2 : K.lookup P2 = none) (h2 : hdB te2 tv2 c2 P2 = true)
    {P3 : Addr} {te3 : Value} {td3 : Option Addr} {tv3 : Array Value} {ts3 : Array (Option Value)} (t3 : K.lookup c3 = some ⟨te3, td3, .fields tv3, ts3⟩) (u3 : tv3[11]? = some (.ref P3)) (n3 : K.lookup P3 = none) (h3 : hdB te3 tv3 c3 P3 = true)
    (z_len : PySem.W.nsIn K mainGlobals "len" = some none)
    (z_all : PySem.W.nsIn K mainGlobals "all" = some none)
    (z_abs : PySem.W.nsIn K mainGlobals "abs" = some none)
    (z_int : PySem.W.nsIn K mainGlobals "int" = some none)
    (z_range : PySem.W.nsIn K mainGlobals "range" = some none)
    (z_list : PySem.W.nsIn K mainGlobals "list" = some none)
    (z_reversed : PySem.W.nsIn K mainGlobals "reversed" = some none)
    (z_isinstance : PySem.W.nsIn K mainGlobals "isinstance" = some none)
    (z_tuple : PySem.W.nsIn K mainGlobals "tuple" = some none)
    (z_bool : PySem.W.nsIn K mainGlobals "bool" = some none)
    (z_str : PySem.W.nsIn K mainGlobals "str" = some none)
    {tk_LETTERS : Tok} (m_LETTERS : PySem.W.nsIn K mainGlobals "LETTERS" = some (some (.str "abcdefghijklmnopqrstuvwxyz" tk_LETTERS)))
    {tk_DIGITS : Tok} (m_DIGITS : PySem.W.nsIn K mainGlobals "DIGITS" = some (some (.str "0123456789" tk_DIGITS)))
    : LamX.LawAtS l w K CX0 5 63 "script" mg fa h := by
  have e := hfa.symm.trans (PySem.W.mg_of X G a13)
  have e2 : f13 = fa := by cases e; rfl
  subst e2
  have F0 := funT_mk (st := s_words_of) l0 c_0 k0
  have F1 := funT_mk (st := s_is_name) l1 c_1 k1
  have F2 := funT_mk (st := s_is_numeral) l2 c_2 k2
  have F3 := funT_mk (st := s_atom_of) l3 c_3 k3
  have F4 := funT_mk (st := s__law_draws) l4 c_4 k4
  have F5 := funT_mk (st := s__law_take) l5 c_5 k5
  have F6 := funT_mk (st := s__law_same) l6 c_6 k6
  have F7 := funT_mk (st := s__law_pick) l7 c_7 k7
  have F8 := funT_mk (st := s__law_name) l8 c_8 k8
  have F9 := funT_mk (st := s__law_numeral) l9 c_9 k9
  have F10 := funT_mk (st := s__law_parted) l10 c_10 k10
  have F11 := funT_mk (st := s__law_written) l11 c_11 k11
  have F12 := funT_mk (st := s__law_word) l12 c_12 k12
  have F13 := funT_mk (st := s_law) l13 c_13 k13
  have b0 := F0.toFun.binds (ps := ["line"]) fun _ _ _ _ _ _ us hl => match us, hl with | [_], _ => rfl
  have b1 := F1.toFun.binds (ps := ["word"]) fun _ _ _ _ _ _ us hl => match us, hl with | [_], _ => rfl
  have b2 := F2.toFun.binds (ps := ["word"]) fun _ _ _ _ _ _ us hl => match us, hl with | [_], _ => rfl
  have b3 := F3.toFun.binds (ps := ["word"]) fun _ _ _ _ _ _ us hl => match us, hl with | [_], _ => rfl
  have b4 := F4.toFun.binds (ps := ["script"]) fun _ _ _ _ _ _ us hl => match us, hl with | [_], _ => rfl
  have b5 := F5.toFun.binds (ps := ["draws", "bound"]) fun _ _ _ _ _ _ us hl => match us, hl with | [_, _], _ => rfl
  have b6 := F6.toFun.binds (ps := ["value", "due"]) fun _ _ _ _ _ _ us hl => match us, hl with | [_, _], _ => rfl
  have b7 := F7.toFun.binds (ps := ["draws", "items"]) fun _ _ _ _ _ _ us hl => match us, hl with | [_, _], _ => rfl
  have b8 := F8.toFun.binds (ps := ["word"]) fun _ _ _ _ _ _ us hl => match us, hl with | [_], _ => rfl
  have b9 := F9.toFun.binds (ps := ["word"]) fun _ _ _ _ _ _ us hl => match us, hl with | [_], _ => rfl
  have b10 := F10.toFun.binds (ps := ["text", "sign"]) fun _ _ _ _ _ _ us hl => match us, hl with | [_, _], _ => rfl
  have b11 := F11.toFun.binds (ps := ["word"]) fun _ _ _ _ _ _ us hl => match us, hl with | [_], _ => rfl
  have b12 := F12.toFun.binds (ps := ["draws"]) fun _ _ _ _ _ _ us hl => match us, hl with | [_], _ => rfl
  have b13 := F13.toFun.binds (ps := ["script"]) fun _ _ _ _ _ _ us hl => match us, hl with | [_], _ => rfl
  let a : Ads := { f_words_of := f0, c_words_of := c0, P_words_of := 0, fd_words_of := PySem.W.fnOf "words_of" "words_of" (defArgs s_words_of) (defBody s_words_of) (defScope s_words_of) .none kV0 dc0 pm0 an0 (.ref c0) ct0,  f_is_name := f1, c_is_name := c1, P_is_name := P1, fd_is_name := PySem.W.fnOf "is_name" "is_name" (defArgs s_is_name) (defBody s_is_name) (defScope s_is_name) .none kV1 dc1 pm1 an1 (.ref c1) ct1,  f_is_numeral := f2, c_is_numeral := c2, P_is_numeral := P2, fd_is_numeral := PySem.W.fnOf "is_numeral" "is_numeral" (defArgs s_is_numeral) (defBody s_is_numeral) (defScope s_is_numeral) .none kV2 dc2 pm2 an2 (.ref c2) ct2,  f_atom_of := f3, c_atom_of := c3, P_atom_of := P3, fd_atom_of := PySem.W.fnOf "atom_of" "atom_of" (defArgs s_atom_of) (defBody s_atom_of) (defScope s_atom_of) .none kV3 dc3 pm3 an3 (.ref c3) ct3,  f__law_draws := f4, c__law_draws := c4, P__law_draws := 0, fd__law_draws := PySem.W.fnOf "_law_draws" "_law_draws" (defArgs s__law_draws) (defBody s__law_draws) (defScope s__law_draws) .none kV4 dc4 pm4 an4 (.ref c4) ct4,  f__law_take := f5, c__law_take := c5, P__law_take := 0, fd__law_take := PySem.W.fnOf "_law_take" "_law_take" (defArgs s__law_take) (defBody s__law_take) (defScope s__law_take) .none kV5 dc5 pm5 an5 (.ref c5) ct5,  f__law_same := f6, c__law_same := c6, P__law_same := 0, fd__law_same := PySem.W.fnOf "_law_same" "_law_same" (defArgs s__law_same) (defBody s__law_same) (defScope s__law_same) .none kV6 dc6 pm6 an6 (.ref c6) ct6,  f__law_pick := f7, c__law_pick := c7, P__law_pick := 0, fd__law_pick := PySem.W.fnOf "_law_pick" "_law_pick" (defArgs s__law_pick) (defBody s__law_pick) (defScope s__law_pick) .none kV7 dc7 pm7 an7 (.ref c7) ct7,  f__law_name := f8, c__law_name := c8, P__law_name := 0, fd__law_name := PySem.W.fnOf "_law_name" "_law_name" (defArgs s__law_name) (defBody s__law_name) (defScope s__law_name) .none kV8 dc8 pm8 an8 (.ref c8) ct8,  f__law_numeral := f9, c__law_numeral := c9, P__law_numeral := 0, fd__law_numeral := PySem.W.fnOf "_law_numeral" "_law_numeral" (defArgs s__law_numeral) (defBody s__law_numeral) (defScope s__law_numeral) .none kV9 dc9 pm9 an9 (.ref c9) ct9,  f__law_parted := f10, c__law_parted := c10, P__law_parted := 0, fd__law_parted := PySem.W.fnOf "_law_parted" "_law_parted" (defArgs s__law_parted) (defBody s__law_parted) (defScope s__law_parted) .none kV10 dc10 pm10 an10 (.ref c10) ct10,  f__law_written := f11, c__law_written := c11, P__law_written := 0, fd__law_written := PySem.W.fnOf "_law_written" "_law_written" (defArgs s__law_written) (defBody s__law_written) (defScope s__law_written) .none kV11 dc11 pm11 an11 (.ref c11) ct11,  f__law_word := f12, c__law_word := c12, P__law_word := 0, fd__law_word := PySem.W.fnOf "_law_word" "_law_word" (defArgs s__law_word) (defBody s__law_word) (defScope s__law_word) .none kV12 dc12 pm12 an12 (.ref c12) ct12,  f_law := f13, c_law := c13, P_law := 0, fd_law := PySem.W.fnOf "law" "law" (defArgs s_law) (defBody s_law) (defScope s_law) .none kV13 dc13 pm13 an13 (.ref c13) ct13 }
  have T : Txt K mg a := { g_words_of := PySem.W.mg_of X G a0, F_words_of := F0, b_words_of := b0,  g_is_name := PySem.W.mg_of X G a1, F_is_name := F1, b_is_name := b1,  g_is_numeral := PySem.W.mg_of X G a2, F_is_numeral := F2, b_is_numeral := b2,  g_atom_of := PySem.W.mg_of X G a3, F_atom_of := F3, b_atom_of := b3,  g__law_draws := PySem.W.mg_of X G a4, F__law_draws := F4, b__law_draws := b4,  g__law_take := PySem.W.mg_of X G a5, F__law_take := F5, b__law_take := b5,  g__law_same := PySem.W.mg_of X G a6, F__law_same := F6, b__law_same := b6,  g__law_pick := PySem.W.mg_of X G a7, F__law_pick := F7, b__law_pick := b7,  g__law_name := PySem.W.mg_of X G a8, F__law_name := F8, b__law_name := b8,  g__law_numeral := PySem.W.mg_of X G a9, F__law_numeral := F9, b__law_numeral := b9,  g__law_parted := PySem.W.mg_of X G a10, F__law_parted := F10, b__law_parted := b10,  g__law_written := PySem.W.mg_of X G a11, F__law_written := F11, b__law_written := b11,  g__law_word := PySem.W.mg_of X G a12, F__law_word := F12, b__law_word := b12,  g_law := PySem.W.mg_of X G a13, F_law := F13, b_law := b13, len := PySem.W.mg_none_of X G z_len, all := PySem.W.mg_none_of X G z_all, abs := PySem.W.mg_none_of X G z_abs, int := PySem.W.mg_none_of X G z_int, range := PySem.W.mg_none_of X G z_range, list := PySem.W.mg_none_of X G z_list, reversed := PySem.W.mg_none_of X G z_reversed, isinstance := PySem.W.mg_none_of X G z_isinstance, tuple := PySem.W.mg_none_of X G z_tuple, bool := PySem.W.mg_none_of X G z_bool, str := PySem.W.mg_none_of X G z_str, m_LETTERS := ⟨_, PySem.W.mg_of X G m_LETTERS, _, rfl⟩, m_DIGITS := ⟨_, PySem.W.mg_of X G m_DIGITS, _, rfl⟩ }
  have H1 := tab_own F1 (own "is_name" (by simp) _ (PySem.W.mg_of X G a1)) t1 u1
  have H2 := tab_own F2 (own "is_numeral" (by simp) _ (PySem.W.mg_of X G a2)) t2 u2
  have H3 := tab_own F3 (own "atom_of" (by simp) _ (PySem.W.mg_of X G a3)) t3 u3
  refine ⟨a.fd_law, [(c1, P1), (c2, P2), (c3, P3)], spLaw K a, ?_, ?_, ?_, fun s v => .of_eq rfl, ?_, fun base _ _ hB => ?_⟩
  · exact fun p hp => by
      simp only [List.mem_cons, List.not_mem_nil, or_false] at hp
      rcases hp with rfl | rfl | rfl
      · exact H1
      · exact H2
      · exact H3
  · exact fun p hp => by
      simp only [List.mem_cons, List.not_mem_nil, or_false] at hp
      rcases hp with rfl | rfl | rfl
      · exact n1
      · exact n2
      · exact n3
  · exact fun p hp => by
      simp only [List.mem_cons, List.not_mem_nil, or_false] at hp
      rcases hp with rfl | rfl | rfl
      · exact PySem.W.codeHd_of_K X (hd_of t1 h1)
      · exact PySem.W.codeHd_of_K X (hd_of t2 h2)
      · exact PySem.W.codeHd_of_K X (hd_of t3 h3)
  · exact fun H q ns hl hbits hP hS => ⟨q, ns, rfl, hS, by omega, tabG_nil (hP (c1, P1) (by simp)), tabG_nil (hP (c2, P2) (by simp)), tabG_nil (hP (c3, P3) (by simp)), fun _ => rfl⟩
  · have B : TabT base mg a := { tab_is_name := tabB_of (hB (c1, P1) (by simp)),  tab_is_numeral := tabB_of (hB (c2, P2) (by simp)),  tab_atom_of := tabB_of (hB (c3, P3) (by simp)) }
    have G_take := ok__law_take (P := l.prog) (w := w) T B
    have G_pick := ok__law_pick T B G_take
    have G_draws := ok__law_draws (P := l.prog) (w := w) T B
    have G_word := ok__law_word T B G_take G_pick
    have G_name := ok_is_name (P := l.prog) (w := w) T B
    have G_num := ok_is_numeral (P := l.prog) (w := w) T B
    have G_lname := ok__law_name (P := l.prog) (w := w) T B
    have G_lnum := ok__law_numeral (P := l.prog) (w := w) T B
    have G_part := ok__law_parted (P := l.prog) (w := w) T B
    have G_writ := ok__law_written T B G_lname G_part
    have G_atom := ok_atom_of T B G_name
    have G_words := ok_words_of (P := l.prog) (w := w) T B
    have G_s0 := ok_same1 (P := l.prog) (w := w) (base := base) T 0 fn_none
    have G_s1 := ok_same1 T 1 G_s0
    have G_s2 := ok_same1 T 2 G_s1
    exact ok_law T B G_name G_num G_atom G_words G_draws G_take G_s2 G_pick G_lname G_lnum G_part G_writ G_word
end K6
set_option Elab.async false
set_option linter.all false
set_option maxRecDepth 100000
open PySem PySem.W PyProof.Rows
set_option maxHeartbeats 0 in
theorem PySem.Challenge.cw_fewrules_k06_words_names_and_atoms_holds : PySem.Challenge.rw_fewrules_k06_words_names_and_atoms.Holds := by
  w_on; o_law; k_head; (case hw => w_witness2)
  k_fill
  refine Gx.walk_ofAll (l := PySem.Challenge.rw_fewrules_k06_words_names_and_atoms) (n := 63) (k := 5) (x := "script") (CX := fun _ => L2.CX0) (recs := ["is_name", "is_numeral", "atom_of"]) rfl (by decide) rfl ⟨rfl, by decide, by decide⟩ ?R (fun w h Y => PySem.W.kIn_of Y) ?F (fun _ _ _ _ _ h => h)
  case R => decide +kernel
  case F =>
    intro w mg fa h Y KX G hmg own
    refine' K6.end_mk KX G hmg own ?a0 ?l0 ?c_0 ?k0 ?a1 ?l1 ?c_1 ?k1 ?a2 ?l2 ?c_2 ?k2 ?a3 ?l3 ?c_3 ?k3 ?a4 ?l4 ?c_4 ?k4 ?a5 ?l5 ?c_5 ?k5 ?a6 ?l6 ?c_6 ?k6 ?a7 ?l7 ?c_7 ?k7 ?a8 ?l8 ?c_8 ?k8 ?a9 ?l9 ?c_9 ?k9 ?a10 ?l10 ?c_10 ?k10 ?a11 ?l11 ?c_11 ?k11 ?a12 ?l12 ?c_12 ?k12 ?a13 ?l13 ?c_13 ?k13 ?t1 ?u1 ?n1 ?h1 ?t2 ?u2 ?n2 ?h2 ?t3 ?u3 ?n3 ?h3 ?z_len ?z_all ?z_abs ?z_int ?z_range ?z_list ?z_reversed ?z_isinstance ?z_tuple ?z_bool ?z_str ?m_LETTERS ?m_DIGITS
    (case a0 => k_is)
    (case l0 => k_is)
    (case c_0 => k_is)
    (case k0 => k_is)
    (case a1 => k_is)
    (case l1 => k_is)
    (case c_1 => k_is)
    (case k1 => k_is)
    (case a2 => k_is)
    (case l2 => k_is)
    (case c_2 => k_is)
    (case k2 => k_is)
    (case a3 => k_is)
    (case l3 => k_is)
    (case c_3 => k_is)
    (case k3 => k_is)
    (case a4 => k_is)
    (case l4 => k_is)
    (case c_4 => k_is)
    (case k4 => k_is)
    (case a5 => k_is)
    (case l5 => k_is)
    (case c_5 => k_is)
    (case k5 => k_is)
    (case a6 => k_is)
    (case l6 => k_is)
    (case c_6 => k_is)
    (case k6 => k_is)
    (case a7 => k_is)
    (case l7 => k_is)
    (case c_7 => k_is)
    (case k7 => k_is)
    (case a8 => k_is)
    (case l8 => k_is)
    (case c_8 => k_is)
    (case k8 => k_is)
    (case a9 => k_is)
    (case l9 => k_is)
    (case c_9 => k_is)
    (case k9 => k_is)
    (case a10 => k_is)
    (case l10 => k_is)
    (case c_10 => k_is)
    (case k10 => k_is)
    (case a11 => k_is)
    (case l11 => k_is)
    (case c_11 => k_is)
    (case k11 => k_is)
    (case a12 => k_is)
    (case l12 => k_is)
    (case c_12 => k_is)
    (case k12 => k_is)
    (case a13 => k_is)
    (case l13 => k_is)
    (case c_13 => k_is)
    (case k13 => k_is)
    (case t1 => k_is)
    (case u1 => rfl)
    (case n1 => kernel_rfl)
    (case h1 => rfl)
    (case t2 => k_is)
    (case u2 => rfl)
    (case n2 => kernel_rfl)
    (case h2 => rfl)
    (case t3 => k_is)
    (case u3 => rfl)
    (case n3 => kernel_rfl)
    (case h3 => rfl)
    (case z_len => k_is)
    (case z_all => k_is)
    (case z_abs => k_is)
    (case z_int => k_is)
    (case z_range => k_is)
    (case z_list => k_is)
    (case z_reversed => k_is)
    (case z_isinstance => k_is)
    (case z_tuple => k_is)
    (case z_bool => k_is)
    (case z_str => k_is)
    (case m_LETTERS => k_is)
    (case m_DIGITS => k_is)
