import PyProof.Rows.All
import Wide.All
import OpenK.AllK
import Wide.FinOn
import HandS.ForMost
import HandS.AnyAll
import HandS.Nested
import HandS.GenOver
import PyProof.GenQ
import HandS.SortOrd
import HandS.NamedTupSort
import HandS.TupSets
import KE.KSortTupAny
import HandS.SetBool
import HandS.SortInts
import KE.KTupSum
import HandS.TupLen
import HandS.IsInst
import HandS.Deep
import HandS.TupAny
import HandS.Star
import HandS.Wide
import HandS.Remove
import HandS.SetFor
import HandS.EndTab
import HandS.Lambda
import KE.GoesMore
import KE.GoesEnum
import HandS.Conv
import HandS.Zip
import HandS.ExcOwn
import HandS.ExcIs
import HandS.WordsExc
import HandS.HotCalls
import KE.DataFind
import HandS.FStr
import HandS.RaiseMore
import HandS.Style
import KE.KRevSl
import PyProof.CallFns
import PyProof.ReprRoads
import PyProof.ReprLen
import PySem.Challenge.RW_layfaces_k10_faces_laid_on_lots
set_option Elab.async false
set_option linter.all false
set_option maxRecDepth 100000
set_option maxHeartbeats 2000000
/-! all(..), any(..) of a generator expression whose element is any expression of the layer (calls among them). -/
namespace GxA
open PySem PySem.Spec PyProof.Rows L2 GxR GenW

/-- the generator expression's own environment -/
abbrev gE (X : Cx) (sc : Scope) (cd : Value) (C : Addr) : Env := genEnv sc (cloFrom X.env.cells sc.names []) C cd builtinsNs X.env
/-- its context: it runs over the frames of X -/
def gcx (X : Cx) (N : List Str) (sc : Scope) (cd : Value) (C : Addr) (A : Around) (s : Shared) (H : Hp) (fp : List Addr) (pn : List (Addr × Obj)) : Cx where
  prog := X.prog
  w := X.w
  K := X.K
  mg := X.mg
  base := X.base
  A := A.deeper (gE X sc cd C)
  N := N
  s_0 := s
  H_0 := H
  env := gE X sc cd C
  outer := X.stack
  stack := gE X sc cd C :: X.stack
  ex := fp
  fn := fun _ => false
  calm := true
  pn := pn
  xe := fun _ _ => False

theorem over_loopG {A : Around} {elt : Expr} {gs : List Comprehension} {sc : Scope} {p : Pos} {it acc : Value} {env : Env} : A.over (.compLoop (.GeneratorExp elt gs sc p) 0 it acc env) [] = A.deeper env := by
  obtain ⟨a1, a2, a3, a4, a5⟩ := A
  simp [Around.over, Around.deeper, marksOver, frameCount, unitsOf, envsOf, guardsOf, pushEnvs, pushGuards, Code.envs, Code.env?, Code.isFrame, Code.guards, Code.isGuard, Code.weight, Code.frames, Code.isCreation, Code.isCaller, Code.cUnits]
theorem over_startG {A : Around} {elt : Expr} {gs : List Comprehension} {sc : Scope} {p : Pos} {it acc : Value} {env : Env} : A.over (.compStart (.GeneratorExp elt gs sc p) 0 it acc env) [] = A.deeper env := by
  obtain ⟨a1, a2, a3, a4, a5⟩ := A
  simp [Around.over, Around.deeper, marksOver, frameCount, unitsOf, envsOf, guardsOf, pushEnvs, pushGuards, Code.envs, Code.env?, Code.isFrame, Code.guards, Code.isGuard, Code.weight, Code.frames, Code.isCreation, Code.isCaller, Code.cUnits]

/-- the consumer has only looked at a truth -/
structure Still (g : Nat) (s s' : Shared) : Prop where
  heap : s'.heap = s.heap
  os : s'.os = s.os
  bare : AllBare s'.gens
  sz : g < s'.gens.size
theorem inv_still {X : Cx} {pins : List (Addr × Obj)} {σ : L2.St} {H : Hp} {s s' : Shared} {g : Nat} (I : Inv X pins σ H s) (z : Still g s s') : Inv X pins σ H s' :=
  I.call' (ch := []) z.os (by rw [z.heap]; exact Un.refl) (by rw [z.heap]; exact I.hok) z.bare fun b hb => absurd hb (by simp)

def gY (X' : Cx) (g : Nat) (all : Bool) (Q : VK) : Protocol := fun _ _ v s kap =>
  ∃ (b : Bool) (pins : List (Addr × Obj)) (σ : L2.St) (H : Hp), v = .bool b ∧ Inv X' pins σ H s ∧ g < s.gens.size ∧ (b ≠ all → Q (.bl b) H) ∧ (b = all → ∀ s', Still g s s' → kap (.send .none) s')
def gP (X' : Cx) (all : Bool) (Q : VK) : Nat → Shared → Shared → Prop := fun _ _ s =>
  ∃ (pins : List (Addr × Obj)) (σ : L2.St) (H : Hp), Inv X' pins σ H s ∧ Q (.bl all) H
abbrev gR (X' : Cx) (all : Bool) (Q : VK) : GenEnd := fun n s₀ r s₁ => r = .ok .next ∧ gP X' all Q n s₀ s₁

/-- what is to be shown of the walk: W by the turn and how many turns are left -/
def gW (all : Bool) (J : It) (σc : L2.St) (te : TE) (Q : VK) (W : Nat → Nat → Hp → Prop) : Prop := ∀ i m H3, W i m H3 →
  (J.stop i H3 ∧ Q (.bl all) H3) ∨ ∃ m', m = m' + 1 ∧ J.go i H3 ∧ ∀ x H4, J.yld i H3 x H4 → te (some x :: σc) H4 fun v H5 => ∃ b : Bool, v = .bl b ∧ (b = all → W (i + 1) m' H5) ∧ (b ≠ all → Q (.bl b) H5)

section
variable {X : Cx} {N : List Str} {sc : Scope} {cd : Value} {C : Addr} {A : Around} {s2 : Shared} {H1 : Hp} {fp : List Addr} {pn : List (Addr × Obj)} {g : Nat} {all : Bool} {Q : VK} {J : It} {it : Addr} {tn : Nat → Heap → Prop} {x : Str} {px gpos : Pos} {elt iter : Expr} {te : TE} {W : Nat → Nat → Hp → Prop} {σc : L2.St}

theorem seg_loopG (T : Turn X.prog X.w X.K (.Name x px) J fp it tn) (hx : sc.names.lookup x = some .local) (hco : sc.isCoroutine = false) (hnd : N.Nodup) (hN : N[0]? = some x)
    (hel : PE (gcx X N sc cd C A s2 H1 fp pn) elt te) (hW : gW all J σc te Q W) :
    ∀ (m i : Nat) (s₀ s : Shared) (H : Hp) (y : Option V), W i m H → Inv (gcx X N sc cd C A s2 H1 fp pn) [] (y :: σc) H s → (∀ b ∈ fp, FpOk (gcx X N sc cd C A s2 H1 fp pn) [] H b) → tn i s.heap → g < s.gens.size →
      Seg (model X.prog X.w) A (gR (gcx X N sc cd C A s2 H1 fp pn) all Q) (gY (gcx X N sc cd C A s2 H1 fp pn) g all Q) m s₀
        (.compLoop (.GeneratorExp elt [⟨.Name x px, iter, [], 0⟩] sc gpos) 0 (.ref it) .none (gE X sc cd C))
        ((model X.prog X.w).den (.compLoop (.GeneratorExp elt [⟨.Name x px, iter, [], 0⟩] sc gpos) 0 (.ref it) .none (gE X sc cd C))) [] s := by
  have stopped : ∀ (m i : Nat) (s₀ s : Shared) (H : Hp) (y : Option V), J.stop i H → Q (.bl all) H → Inv (gcx X N sc cd C A s2 H1 fp pn) [] (y :: σc) H s → (∀ b ∈ fp, FpOk (gcx X N sc cd C A s2 H1 fp pn) [] H b) → tn i s.heap →
      Seg (model X.prog X.w) A (gR (gcx X N sc cd C A s2 H1 fp pn) all Q) (gY (gcx X N sc cd C A s2 H1 fp pn) g all Q) m s₀
        (.compLoop (.GeneratorExp elt [⟨.Name x px, iter, [], 0⟩] sc gpos) 0 (.ref it) .none (gE X sc cd C))
        ((model X.prog X.w).den (.compLoop (.GeneratorExp elt [⟨.Name x px, iter, [], 0⟩] sc gpos) 0 (.ref it) .none (gE X sc cd C))) [] s := by
    intro m i s₀ s H y hs hq I hf st
    show Seg _ A _ _ _ s₀ _ ((compTurn (.GeneratorExp elt [⟨.Name x px, iter, [], 0⟩] sc gpos) 0 (.ref it) .none (gE X sc cd C)).onRaise (leaving (gE X sc cd C))) [] s
    rw [compTurn_gen, Sem.onRaise_eq_wrap]
    refine seg_bind_wrap (wpAny_standAt ?_)
    refine seg_bind_wrap ?_
    rw [over_loopG]
    refine wpAny_mono (T.done (gcx X N sc cd C A s2 H1 fp pn) rfl rfl rfl rfl i [] s _ H (fun _ _ => False) I hf st hs) (fun r s1 hr => ?_) fun _ _ e => e.elim
    obtain ⟨rfl, I1⟩ := hr
    exact seg_end (.ok .next) ⟨rfl, [], _, H, I1, hq⟩
  intro m
  induction m with
  | zero =>
    intro i s₀ s H y w I hf st hg
    rcases hW i 0 H w with ⟨hs, hq⟩ | ⟨m', e, _⟩
    · exact stopped 0 i s₀ s H y hs hq I hf st
    · exact absurd e (by omega)
  | succ m ih =>
    intro i s₀ s H y w I hf st hg
    rcases hW i (m + 1) H w with ⟨hs, hq⟩ | ⟨m', e, hgo, hturn⟩
    · exact stopped (m + 1) i s₀ s H y hs hq I hf st
    have em : m' = m := by omega
    subst em
    show Seg _ A _ _ _ s₀ _ ((compTurn (.GeneratorExp elt [⟨.Name x px, iter, [], 0⟩] sc gpos) 0 (.ref it) .none (gE X sc cd C)).onRaise (leaving (gE X sc cd C))) [] s
    rw [compTurn_gen, Sem.onRaise_eq_wrap]
    refine seg_bind_wrap (wpAny_standAt ?_)
    refine seg_bind_wrap ?_
    rw [over_loopG]
    refine wpAny_gsz (n := g + 1) hg (wpAny_mono (T.item (gcx X N sc cd C A s2 H1 fp pn) rfl rfl rfl rfl i [] s _ H (fun _ _ => False) I hf st hgo) (fun r s1 hr hg1 => ?_) fun _ _ e => e.elim)
    obtain ⟨u, rfl, hr⟩ := hr
    refine seg_bind_wrap ?_
    rw [over_loopG]
    refine wpAny_gsz (n := g + 1) hg1 (wpAny_mono hr (fun _ s3 h3 hg3 => ?_) fun _ _ e => e.elim)
    obtain ⟨v, H4, I3, rv, hy, st3, hfn⟩ := h3
    have hf3 : ∀ b ∈ fp, FpOk (gcx X N sc cd C A s2 H1 fp pn) [] H4 b := fun b hb => let ⟨_, z⟩ := hf b hb; ⟨hfn b hb, z⟩
    refine seg_bind_wrap (wpAny_assign_Name ?_)
    rw [over_loopG]
    refine wpAny_gsz (n := g + 1) hg3 ?_
    refine store_ok2 (X := gcx X N sc cd C A s2 H1 fp pn) (i := 0) I3 hnd hN (.inl hx) rv (fun s4 I4 hsame hg4 => ?_) (.inr hx)
    obtain ⟨c, sb, hc⟩ := hsame
    have st4 : tn (i + 1) s4.heap := T.keep _ _ _ st3 fun b hb o e => (sb.2 b fun z => by
      obtain ⟨_, f1, _, _, f4, _⟩ := hf3 b hb
      rcases hc with hc | hc
      · exact f1 (z.trans hc)
      · exact f4 x c hc z.symm).trans e
    refine seg_bind_wrap (wpAny_pure ?_)
    simp only [if_true]
    have hyo : ∀ v, yieldOut (gE X sc cd C) v = yieldValue v := fun v => by
      unfold yieldOut
      rw [show (gE X sc cd C).scope.isCoroutine = false from hco]
      rfl
    simp only [hyo]
    rw [Sem.bind_eq_wrap', Sem.bind_eq_wrap', Sem.wrap_wrap, Sem.wrap_wrap]
    refine seg_wrap ?_
    rw [over_loopG]
    have I4' : Inv (gcx X N sc cd C A s2 H1 fp pn) ([] ++ pinsAt fp s4.heap) (some v :: σc) H4 s4 := Inv.pinned I4 hf3 (T.obj _ _ st4)
    refine wpAny_gsz (n := g + 1) hg4 (wpAny_mono (hel.run _ s4 (some v :: σc) H4 _ I4' (hturn v H4 hy)) (fun yv s5 h5 hg5 => ?_) fun _ _ e => e.elim)
    obtain ⟨v5, H5, I5, r5, b, rfl, hb1, hb2⟩ := h5
    obtain rfl : yv = Value.bool b := r5
    refine seg_at (seg_yield rfl rfl rfl ⟨b, _, _, H5, rfl, I5, hg5, hb2, fun hb s6 z => ?_⟩)
    have I6 := inv_still I5 z
    have pinK : ∀ b ∈ fp, ∀ o, s4.heap.get? b = some o → s6.heap.get? b = some o ∧ H5 b = none := fun b hb o e => by
      have q := I6.pin (b, o) (List.mem_append_right _ (List.mem_append_right _ (mem_pinsAt hb e)))
      exact ⟨q.1, q.2.1⟩
    refine seg_again rfl (ih (i + 1) s6 s6 H5 (some v) (hb1 hb) (I6.pins_of fun p hp => absurd hp (by simp)) (fun b hb => ?_) (T.keep _ _ _ st4 fun b hb o e => (pinK b hb o e).1) z.sz)
    obtain ⟨_, f1⟩ := hf3 b hb
    obtain ⟨o, ho, _⟩ := T.obj _ _ st4 b hb
    exact ⟨(pinK b hb o ho).2, f1⟩

theorem seg_startG (T : Turn X.prog X.w X.K (.Name x px) J fp it tn) (hx : sc.names.lookup x = some .local) (hco : sc.isCoroutine = false) (hnd : N.Nodup) (hN : N[0]? = some x)
    (hel : PE (gcx X N sc cd C A s2 H1 fp pn) elt te) (hW : gW all J σc te Q W) (m i : Nat) (s₀ s : Shared) (H : Hp) (y : Option V) (w : W i m H) (I : Inv (gcx X N sc cd C A s2 H1 fp pn) [] (y :: σc) H s)
    (hf : ∀ b ∈ fp, FpOk (gcx X N sc cd C A s2 H1 fp pn) [] H b) (st : tn i s.heap) (hg : g < s.gens.size) :
      Seg (model X.prog X.w) A (gR (gcx X N sc cd C A s2 H1 fp pn) all Q) (gY (gcx X N sc cd C A s2 H1 fp pn) g all Q) m s₀
        (.compStart (.GeneratorExp elt [⟨.Name x px, iter, [], 0⟩] sc gpos) 0 (.ref it) .none (gE X sc cd C))
        ((model X.prog X.w).den (.compStart (.GeneratorExp elt [⟨.Name x px, iter, [], 0⟩] sc gpos) 0 (.ref it) .none (gE X sc cd C))) [] s := by
  have loop := seg_loopG (iter := iter) (gpos := gpos) (g := g) T hx hco hnd hN hel hW m i s₀ s H y w I hf st hg
  show Seg _ A _ _ _ s₀ _ ((compStart (.GeneratorExp elt [⟨.Name x px, iter, [], 0⟩] sc gpos) 0 (.ref it) .none (gE X sc cd C)).onRaise (leaving (gE X sc cd C))) [] s
  unfold compStart
  rw [Sem.onRaise_eq_wrap]
  show Seg _ A _ _ _ s₀ _ ((ask >>= _).wrap _ _ _ _) [] s
  refine seg_bind_wrap (wpAny_askSetting ?_)
  split
  · exact seg_again rfl loop
  · refine seg_bind_wrap (wpAny_rule ?_)
    show Seg _ A _ _ _ s₀ _ ((standAt iter.pos >>= _).wrap _ _ _ _) [] s
    exact seg_bind_wrap (wpAny_standAt (seg_bind_wrap (T.self _ i s _ _ st (seg_again rfl loop))))
end
end GxA

set_option maxHeartbeats 2000000
namespace GxA
open PySem PySem.Spec PyProof.Rows L2 GxR GenW

/-- the generator at a sleeps, m turns are left -/
def Ready (X' : Cx) (P : Program) (w : World) (A : Around) (a : Addr) (g : Nat) (all : Bool) (Q : VK) (m : Nat) (s : Shared) : Prop :=
  s.heap.IsGen a g ∧ s.heap.NoLimit ∧ AllBare s.gens ∧ ∃ gs, s.gens[g]? = some gs ∧ ∀ s', Still g s s' → gs.Goes (model P w) A.in1 (gR X' all Q) (gY X' g all Q) m (.send .none) s'
/-- the walk is over -/
def Over (X' : Cx) (Q : VK) (v : Bool) (s : Shared) : Prop := ∃ (pins : List (Addr × Obj)) (σ : L2.St) (H : Hp), Inv X' pins σ H s ∧ Q (.bl v) H

theorem gens_lt {gens : Array GenState} {g : Nat} {gs : GenState} (h : gens[g]? = some gs) : g < gens.size := by
  rcases Nat.lt_or_ge g gens.size with z | z
  · exact z
  · rw [Array.getElem?_eq_none z] at h
    cases h
theorem bare_set {s : Shared} {g : Nat} {x : GenState} (h : AllBare s.gens) (hx : x.bare = true) : AllBare (s.setGen g x).gens := by
  intro y hy
  unfold Shared.setGen at hy
  rcases Array.mem_or_eq_of_mem_setIfInBounds hy with z | z
  · exact h y z
  · rw [z]
    exact hx

section
variable {X' : Cx} {A : Around} {a : Addr} {g : Nat} {all : Bool} {Q : VK} {go : Obj}
theorem next_G (hA : A.handled = none) (hd : A.depth < recursionLimit) (hp : (a, go) ∈ X'.pn) (hgo : ∀ h : Heap, h.get? a = some go → h.IsGen a g) {m : Nat} {s : Shared} {E : Value → Shared → Prop} (r : Ready X' X'.prog X'.w A a g all Q m s) :
    wpAny (model X'.prog X'.w) A (pyNext (.ref a)) (fun o s' => (o = none ∧ Over X' Q all s') ∨ ∃ b : Bool, o = some (.bool b) ∧ ((b ≠ all ∧ Over X' Q b s') ∨ (b = all ∧ ∃ m', m = m' + 1 ∧ Ready X' X'.prog X'.w A a g all Q m' s'))) E s := by
  obtain ⟨hg, hl, hb, gs, hgs, goes⟩ := r
  have hlt := gens_lt hgs
  have z0 : Still g s (s.setGen g .running) := ⟨rfl, rfl, bare_set hb rfl, by rw [setGen_size]; exact hlt⟩
  refine wpAny_pyNext_genexpQ (P := gP X' all Q) (Y := gY X' g all Q) (n := m) hA hl hd hg hgs (goes _ z0) (fun v s₁ gs' hbare hv => ?_) (fun s₁ hp1 h' hk => ?_)
  · obtain ⟨b, pins, σ, H, rfl, I, hsz, q1, q2⟩ := hv
    have J : Inv X' pins σ H (s₁.setGen g gs') := inv_still (g := g) I ⟨rfl, rfl, bare_set I.bare hbare, by rw [setGen_size]; exact hsz⟩
    refine .inr ⟨b, rfl, ?_⟩
    by_cases hb1 : b = all
    · refine .inr ⟨hb1, ?_⟩
      cases m with
      | zero => exact (q2 hb1 _ ⟨rfl, rfl, I.bare, hsz⟩).elim
      | succ m' =>
        refine ⟨m', rfl, hgo _ (J.pin (a, go) (List.mem_append_left _ hp)).1, J.nolimit, J.bare, gs', ?_, fun s' z => q2 hb1 s' ⟨z.heap, z.os, z.bare, z.sz⟩⟩
        simp [Shared.setGen, hsz]
    · exact .inl ⟨hb1, pins, σ, H, J, q1 hb1⟩
  · obtain ⟨pins, σ, H, I, q⟩ := hp1
    refine .inl ⟨rfl, pins, σ, H, ?_, q⟩
    exact I.call' (s' := { s₁.setGen g .finished with heap := h' }) (ch := []) rfl (Un.kept hk) (I.hok.kept hk) (bare_set I.bare rfl) fun b hb => absurd hb (by simp)

theorem all_G (hA : A.handled = none) (hd : A.depth < recursionLimit) (hp : (a, go) ∈ X'.pn) (hgo : ∀ h : Heap, h.get? a = some go → h.IsGen a g) {R : Result → Shared → Prop} (hR : ∀ b s', Over X' Q b s' → R (.ok (.ret (.bool b))) s') :
    ∀ (m : Nat) (s : Shared), Ready X' X'.prog X'.w A.in1 a g true Q m s → codeAny (model X'.prog X'.w) A (.builtin "all.loop" ⟨[.ref a], []⟩) R s := by
  intro m
  induction m with
  | zero =>
    intro s r
    refine codeAny_builtin F.entry_all_loop ?_
    rw [Around.under_plainId F.plain_all_loop _]
    show wpAny _ A.in1 (pyNext (.ref a) >>= _) _ _ s
    refine wpAny_bind (wpAny_mono (next_G (A := A.in1) hA hd hp hgo r) (fun o s' h => ?_) fun _ _ e => e)
    rcases h with ⟨rfl, ov⟩ | ⟨b, rfl, ⟨hb, ov⟩ | ⟨_, m', e, _⟩⟩
    · exact wpAny_bind (wpAny_rule (wpAny_pure (hR true s' ov)))
    · refine wpAny_bind (wpAny_holding (wpAny_truthy_bool ?_))
      refine wpAny_bind (wpAny_letGo ?_)
      cases b with
      | true => exact absurd rfl hb
      | false =>
        simp only [Bool.false_eq_true, if_false]
        exact wpAny_bind (wpAny_rule (wpAny_pure (hR false s' ov)))
    · exact absurd e (by omega)
  | succ m ih =>
    intro s r
    refine codeAny_builtin F.entry_all_loop ?_
    rw [Around.under_plainId F.plain_all_loop _]
    show wpAny _ A.in1 (pyNext (.ref a) >>= _) _ _ s
    refine wpAny_bind (wpAny_mono (next_G (A := A.in1) hA hd hp hgo r) (fun o s' h => ?_) fun _ _ e => e)
    rcases h with ⟨rfl, ov⟩ | ⟨b, rfl, ⟨hb, ov⟩ | ⟨hb, m', e, rd⟩⟩
    · exact wpAny_bind (wpAny_rule (wpAny_pure (hR true s' ov)))
    · refine wpAny_bind (wpAny_holding (wpAny_truthy_bool ?_))
      refine wpAny_bind (wpAny_letGo ?_)
      cases b with
      | true => exact absurd rfl hb
      | false =>
        simp only [Bool.false_eq_true, if_false]
        exact wpAny_bind (wpAny_rule (wpAny_pure (hR false s' ov)))
    · subst hb
      have em : m' = m := by omega
      subst em
      refine wpAny_bind (wpAny_holding (wpAny_truthy_bool ?_))
      refine wpAny_bind (wpAny_letGo ?_)
      simp only [if_true]
      exact wpAny_pure ⟨plainId_quiet F.plain_all_loop _, ih s' rd⟩

theorem any_G (hA : A.handled = none) (hd : A.depth < recursionLimit) (hp : (a, go) ∈ X'.pn) (hgo : ∀ h : Heap, h.get? a = some go → h.IsGen a g) {R : Result → Shared → Prop} (hR : ∀ b s', Over X' Q b s' → R (.ok (.ret (.bool b))) s') :
    ∀ (m : Nat) (s : Shared), Ready X' X'.prog X'.w A.in1 a g false Q m s → codeAny (model X'.prog X'.w) A (.builtin "any.loop" ⟨[.ref a], []⟩) R s := by
  intro m
  induction m with
  | zero =>
    intro s r
    refine codeAny_builtin F.entry_any_loop ?_
    rw [Around.under_plainId F.plain_any_loop _]
    show wpAny _ A.in1 (pyNext (.ref a) >>= _) _ _ s
    refine wpAny_bind (wpAny_mono (next_G (A := A.in1) hA hd hp hgo r) (fun o s' h => ?_) fun _ _ e => e)
    rcases h with ⟨rfl, ov⟩ | ⟨b, rfl, ⟨hb, ov⟩ | ⟨_, m', e, _⟩⟩
    · exact wpAny_bind (wpAny_rule (wpAny_pure (hR false s' ov)))
    · refine wpAny_bind (wpAny_holding (wpAny_truthy_bool ?_))
      refine wpAny_bind (wpAny_letGo ?_)
      cases b with
      | false => exact absurd rfl hb
      | true =>
        simp only [if_true]
        exact wpAny_bind (wpAny_rule (wpAny_pure (hR true s' ov)))
    · exact absurd e (by omega)
  | succ m ih =>
    intro s r
    refine codeAny_builtin F.entry_any_loop ?_
    rw [Around.under_plainId F.plain_any_loop _]
    show wpAny _ A.in1 (pyNext (.ref a) >>= _) _ _ s
    refine wpAny_bind (wpAny_mono (next_G (A := A.in1) hA hd hp hgo r) (fun o s' h => ?_) fun _ _ e => e)
    rcases h with ⟨rfl, ov⟩ | ⟨b, rfl, ⟨hb, ov⟩ | ⟨hb, m', e, rd⟩⟩
    · exact wpAny_bind (wpAny_rule (wpAny_pure (hR false s' ov)))
    · refine wpAny_bind (wpAny_holding (wpAny_truthy_bool ?_))
      refine wpAny_bind (wpAny_letGo ?_)
      cases b with
      | false => exact absurd rfl hb
      | true =>
        simp only [if_true]
        exact wpAny_bind (wpAny_rule (wpAny_pure (hR true s' ov)))
    · subst hb
      have em : m' = m := by omega
      subst em
      refine wpAny_bind (wpAny_holding (wpAny_truthy_bool ?_))
      refine wpAny_bind (wpAny_letGo ?_)
      simp only [Bool.false_eq_true, if_false]
      exact wpAny_pure ⟨plainId_quiet F.plain_any_loop _, ih s' rd⟩
end

/-- the captured names: the place of each in the def's own slots -/
def CapsOk (X : Cx) (sc : Scope) : List Nat → List Str → Prop
  | [], [] => True
  | i :: is, y :: ys => (X.N[i]? = some y ∧ (X.env.scope.names.lookup y = some .cell ∨ X.env.scope.names.lookup y = some .free) ∧ sc.names.lookup y = some .free) ∧ CapsOk X sc is ys
  | _, _ => False
theorem CapsOk.get {X : Cx} {sc : Scope} : ∀ {is : List Nat} {ys : List Str} {j : Nat} {y : Str}, CapsOk X sc is ys → ys[j]? = some y →
    ∃ i, is[j]? = some i ∧ X.N[i]? = some y ∧ (X.env.scope.names.lookup y = some .cell ∨ X.env.scope.names.lookup y = some .free) ∧ sc.names.lookup y = some .free
  | [], [], _, _, _, e => by simp at e
  | i :: is, y' :: ys, 0, y, h, e => by
    have e' : y' = y := by simpa using e
    subst e'
    exact ⟨i, rfl, h.1⟩
  | i :: is, y' :: ys, j + 1, y, h, e => by
    obtain ⟨i', z⟩ := CapsOk.get (j := j) (y := y) h.2 (by simpa using e)
    exact ⟨i', by simpa using z⟩
  | [], _ :: _, _, _, h, _ => h.elim
  | _ :: _, [], _, _, h, _ => h.elim
theorem CapsOk.len {X : Cx} {sc : Scope} : ∀ {is : List Nat} {ys : List Str}, CapsOk X sc is ys → is.length = ys.length
  | [], [], _ => rfl
  | i :: is, y :: ys, h => by
    rw [List.length_cons, List.length_cons, CapsOk.len h.2]
  | [], _ :: _, h => h.elim
  | _ :: _, [], h => h.elim

/-- the captured slots -/
def capV (caps : List Nat) (σ : L2.St) : L2.St := caps.map fun j => (σ[j]?).getD none

section
variable {X : Cx} {pins : List (Addr × Obj)} {σ : L2.St} {H : Hp} {s : Shared}
/-- the generator's context begins -/
theorem inv_beginG {xs : List Str} {x : Str} {sc : Scope} {caps : List Nat} {cd : Value} {C a : Addr} {A : Around} {s2 s5 : Shared} {H1 H2 : Hp} {fp : List Addr} {go : Obj} {mC : Str → Option Value}
    (I1 : Inv X pins σ H1 s2) (I5 : Inv X pins σ H2 s5) (S : GenS X.env sc x) (hc : CapsOk X sc caps xs) (hA : A.handled = none) (hfr : A.frames = some X.stack)
    (hfp : ∀ b ∈ fp, FpOk X pins H1 b) (hfp2 : ∀ b ∈ fp, H2 b = none ∧ b < s2.heap.objs.size)
    (un : Un (frs X.stack) fp H1 H2 s2.heap s5.heap) (hC : s2.heap.objs.size ≤ C) (hns : s5.heap.Ns C mC) (hHC : H2 C = none) (hCf : C ∉ frs X.stack)
    (ha : s5.heap.get? a = some go) (hHa : H2 a = none) (haC : a ≠ C) (haf : a ∉ frs X.stack) (hgo : ∀ v, go.data ≠ .cell v) :
    Inv (gcx X (x :: xs) sc cd C A s2 H1 fp [(a, go)]) [] (none :: capV caps σ) H2 s5 := by
  have cm : ∀ y c, (cloFrom X.env.cells sc.names []).lookup y = some c → X.env.cells.lookup y = some c := fun y c e => NdefX.clo_cm S.free e
  have stk_lt : ∀ b ∈ frs X.stack, b < s2.heap.objs.size := fun b hb => by
    obtain ⟨_, o, ho, _⟩ := I1.stack.mem hb
    exact Heap.lt_size ho
  have cellLt : ∀ y c, X.env.cells.lookup y = some c → c < s2.heap.objs.size := fun y c e => by
    obtain ⟨v, q⟩ := I1.cell y c e
    exact q.lt
  refine ⟨⟨I1.ok.mod, S.kind, I1.ok.glob, rfl, hC, fun y z c e1 e2 => I1.ok.inj y z c (cm y c e1) (cm z c e2), fun y hy => ?_, fun y c hf _ => Bool.noConfusion hf, fun _ => hA, ?_, .inr ⟨rfl, rfl⟩, fun b hb => ⟨?_, fun y c e z => ?_⟩, I1.bs, Nat.le_trans I1.ok.bsz I1.sz, fun b o e hb => ?_, fun b hb hb2 => ?_, I1.stack, I1.stkFree⟩,
    ?_, I5.bare, un, ⟨mC, hns, fun j y v e1 e2 e3 => ?_⟩, fun y c e => I5.cell y c (cm y c e), hHC, fun y c e => I5.freeC y c (cm y c e), fun p hp => ?_, I5.hok, ?_⟩
  · have hy' : sc.names.lookup y = some .cell ∨ sc.names.lookup y = some .free := hy
    rcases hy' with q | q
    · exact absurd rfl (S.cell _ (PySem.mem_of_lookup q))
    · have hm := PySem.mem_of_lookup q
      obtain ⟨c, e⟩ := S.free _ hm rfl
      exact ⟨c, NdefX.clo_has S.free hm e⟩
  · show A.frames.map (gE X sc cd C :: ·) = some (gE X sc cd C :: X.stack)
    rw [hfr]
    rfl
  · show b ≠ C
    exact Nat.ne_of_lt (Nat.lt_of_lt_of_le (hfp2 b hb).2 hC)
  · obtain ⟨_, _, _, _, f4, _⟩ := hfp b hb
    exact f4 y c (cm y c e) z
  · have q := (hfp b hb).2.2.2.1
    rcases q with q | q
    · exact I1.ok.noex b o e q
    · have h1 := (I1.ok.bs b o e).1
      exact absurd (Nat.lt_of_lt_of_le (Heap.lt_size h1) q) (Nat.lt_irrefl _)
  · obtain ⟨_, f1, f2, _⟩ := hfp b hb
    rcases List.mem_cons.mp (I1.stkSub b hb2) with z | z
    · exact f1 z
    · exact f2 z
  · show s5.os = s2.os
    rw [I5.os, I1.os]
  · cases j with
    | zero =>
      have e2' : (none : Option V) = some v := by simpa using e2
      cases e2'
    | succ j =>
      have e1' : xs[j]? = some y := by
        have q : (x :: xs)[j + 1]? = some y := e1
        simpa using q
      obtain ⟨i, hi, hN, hk, hfree⟩ := hc.get e1'
      have hσ : σ[i]? = some (some v) := by
        have q : (capV caps σ)[j]? = some (some v) := by simpa using e2
        unfold capV at q
        rw [List.getElem?_map, hi] at q
        have q' : (σ[i]?).getD none = some v := by simpa using q
        cases z : σ[i]? with
        | none => rw [z] at q'; cases q'
        | some o => rw [z] at q'; exact congrArg some q'
      obtain ⟨m, hm, hl⟩ := I5.loc
      obtain ⟨u, ru, lk⟩ := hl i y v hN hσ (hk.elim (fun z => .inr (.inl z)) fun z => .inr (.inr z))
      refine ⟨u, ru, .inr ⟨.inr hfree, ?_⟩⟩
      rcases lk with ⟨z, _⟩ | ⟨_, c, e, ic⟩
      · have z' : X.env.scope.names.lookup y = some .local := z
        rcases hk with q | q <;> (rw [z'] at q; cases q)
      · exact ⟨c, NdefX.clo_has S.free (PySem.mem_of_lookup hfree) e, ic⟩
  · have hp' : p = (a, go) := by
      have q : p ∈ [(a, go)] ++ ([] : List (Addr × Obj)) := hp
      simpa using q
    subst hp'
    exact ⟨ha, hHa, haC, haf, hgo⟩
  · show (none :: capV caps σ).length = (x :: xs).length
    unfold capV
    rw [List.length_cons, List.length_cons, List.length_map, hc.len]
end
end GxA

set_option maxHeartbeats 2000000
namespace GxA
open PySem PySem.Spec PyProof.Rows L2 GxR GenW

/-- the reading of all(.. for x in ..), any(.. for x in ..) -/
def tGx (all : Bool) (P : Addr) (caps : List Nat) (wi : TI) (te : TE) : TE := fun σ H Q => wi σ H fun J H1 => TabG H1 P ∧ ∀ H2, Tabbed P H1 H2 →
  ∃ W : Nat → Nat → Hp → Prop, (∃ m, W 0 m H2) ∧ gW all J (capV caps σ) te Q W

section
variable {X : Cx} {pins : List (Addr × Obj)} {σ : L2.St} {H : Hp} {s : Shared}
theorem gen_make {all : Bool} {c P : Addr} {elt iter : Expr} {x : Str} {xs : List Str} {caps : List Nat} {px gpos : Pos} {sc : Scope} {wi : TI} {te : TE} {k : Nat} {Q : VK} {Q' : Value → Shared → Prop}
    (hr : Room (k + 1) X.A) (TB : TabB X.base X.mg c P) (hcode : X.env.code = .ref c) (S : GenS X.env sc x) (hcap : CapsOk X sc caps xs) (hnd : (x :: xs).Nodup) (hi : PI X (.Name x px) iter wi)
    (hel : ∀ (cd : Value) (C : Addr) (A : Around) (s2 : Shared) (H1 : Hp) (fp : List Addr) (pn : List (Addr × Obj)), Room k (A.deeper (gE X sc cd C)) → PE (gcx X (x :: xs) sc cd C A s2 H1 fp pn) elt te)
    (hs : ∀ v, genFold iter X.env v = pure v) (I : Inv X pins σ H s) (h : tGx all P caps wi te σ H Q)
    (hQ : ∀ (X' : Cx) (a : Addr) (g m : Nat) (go : Obj) (s5 : Shared), X'.prog = X.prog → X'.w = X.w → (a, go) ∈ X'.pn → (∀ h : Heap, h.get? a = some go → h.IsGen a g) → Ready X' X.prog X.w X.A.in1 a g all Q m s5 →
      (∀ b s', Over X' Q b s' → ∃ v H', Inv X pins σ H' s' ∧ RelV v (.bool b) ∧ Q v H') → Q' (.ref a) s5) :
    wpAny (model X.prog X.w) X.A (eval (.GeneratorExp elt [⟨.Name x px, iter, [], 0⟩] sc gpos) X.env) Q' X.xe s := by
  have hdep : X.A.depth < recursionLimit := hr.depth
  refine wpAny_GeneratorExp_make S.co (closure_ok S.free) S.cell S.dot S.kind hdep ?_ hs
  refine wpAny_mono (hi.run pins s σ H _ I h) (fun xv s1 h1 => wpAny_mono h1 (fun itv s2 h2 => ?_) fun _ _ e => e) fun _ _ e => e
  obtain ⟨it, fp, tn, J, H1, rfl, I1, T, t0, hfp, ⟨ps, hP, ht⟩, hW⟩ := h2
  refine ⟨I1.nolimit, ?_⟩
  have hPs : s2.heap.get? P = some { cls := .none, data := .fields ps } := I1.hok P _ hP
  have cdh : PySem.W.CodeHd s2.heap c P := TB.code.keeps fun b u e => I1.bk b u e
  have hPlt : P < s2.heap.objs.size := Heap.lt_size hPs
  have main : ∀ (code : Value) (h3 : Heap) (tk : Nat) (ps' : Array Value), Heap.ExtBut P s2.heap h3 → s2.heap.objs.size ≤ h3.objs.size → h3.get? P = some { cls := .none, data := .fields ps' } → (∃ more, ps' = ps ++ more) → TriplesOk ps'.toList →
      wpAny (model X.prog X.w) X.A (builtinsFor X.env.globals X.env.builtins) (fun bi s₄ =>
        ∀ h', h'.Ns s₄.heap.objs.size (fun y => if y = ".0" then some (Value.ref it) else none) → Heap.SameBut s₄.heap.objs.size (s₄.heap.push { cls := .type "frame", data := .dict #[] }) h' →
          Q' (.ref h'.objs.size) { s₄ with
            gens := s₄.gens.push (.fresh (.compStart (.GeneratorExp elt [⟨.Name x px, iter, [], 0⟩] sc gpos) 0 (.ref it) .none (genEnv sc (cloFrom X.env.cells sc.names []) s₄.heap.objs.size code bi X.env))),
            toks := s₄.toks + 1 + 1 + 1,
            heap := h'.push { cls := .type "generator", data := .fields #[.int s₄.gens.size 0, .str "<genexpr>" (s₄.toks + 1), .str (X.env.qual ++ "<genexpr>") (s₄.toks + 1 + 1)] } }) X.xe { s2 with heap := h3, toks := tk } := by
    intro code h3 tk ps' hx hsz hP3 hmore ht3
    obtain ⟨bm, ob, e1, e2, e3, e4, e5, e6, e7, e8⟩ := TB.bm
    have keep3 : ∀ b u, b ≠ P → s2.heap.get? b = some u → h3.get? b = some u := fun b u hb e => hx b u hb e
    refine wpAny_builtinsFor (m := X.mg) (by rw [I1.ok.glob]; exact (I1.mod.glob.keeps I1.bk).extBut hx TB.gP) e1 e2 (keep3 _ _ e4 (I1.bk _ _ e5)) e6 e7 e8 ?_
    intro h' hns hsame
    obtain ⟨more, em⟩ := hmore
    -- names for the new things
    generalize hgo : ({ cls := .type "generator", data := .fields #[.int s2.gens.size 0, .str "<genexpr>" (tk + 1), .str (X.env.qual ++ "<genexpr>") (tk + 1 + 1)] } : Obj) = go
    have szh' : h'.objs.size = h3.objs.size + 1 := by rw [hsame.1, Heap.size_push]
    have keep' : ∀ b o, h3.get? b = some o → h'.get? b = some o := fun b o e => hsame.extBut b o (Nat.ne_of_lt (Heap.lt_size e)) (Heap.get?_push_of_some _ e)
    have keep5 : ∀ b o, h3.get? b = some o → (h'.push go).get? b = some o := fun b o e => Heap.get?_push_of_some _ (keep' b o e)
    have k25 : ∀ b o, b ≠ P → s2.heap.get? b = some o → (h'.push go).get? b = some o := fun b o hb e => keep5 b o (keep3 b o hb e)
    have hP5 : (h'.push go).get? P = some { cls := .none, data := .fields (ps ++ more) } := by
      rw [← em]
      exact keep5 P _ hP3
    have hgoat : (h'.push go).get? h'.objs.size = some go := by
      rw [← hgo]
      exact Heap.get?_push_size _ rfl
    have bare5 : AllBare (s2.gens.push (.fresh (.compStart (.GeneratorExp elt [⟨.Name x px, iter, [], 0⟩] sc gpos) 0 (.ref it) .none (gE X sc code h3.objs.size)))) := I1.bare.push rfl
    have I5 := inv_tab (P := P) (more := more) (h' := h'.push go) (g' := s2.gens.push (.fresh (.compStart (.GeneratorExp elt [⟨.Name x px, iter, [], 0⟩] sc gpos) 0 (.ref it) .none (gE X sc code h3.objs.size)))) (d' := s2.drawn) (t' := tk + 1 + 1 + 1) I1 hP k25 hP5 bare5
    have nP : ∀ b, H1 b = none → b ≠ P := fun b e z => by
      rw [z, hP] at e
      cases e
    have at2 : ∀ b, b ≠ P → upd H1 P (.tbl (ps ++ more)) b = H1 b := fun b hb => upd_ne hb
    have hT2 : Tabbed P H1 (upd H1 P (.tbl (ps ++ more))) := ⟨⟨ps ++ more, upd_same, by rw [← em]; exact ht3⟩, fun b hb => upd_ne hb⟩
    obtain ⟨W, ⟨m, w0⟩, hgW⟩ := hW _ hT2
    have un : Un (frs X.stack) fp H1 (upd H1 P (.tbl (ps ++ more))) s2.heap (h'.push go) := by
      refine ⟨fun b o e n _ _ => k25 b o (nP b n) e, fun b o e n _ _ => ⟨o.slots, k25 b o (nP b n) e⟩, fun b o e n _ => by rw [at2 b (nP b n)]; exact n, fun b o e _ => ?_, fun b zs e => ?_, fun b o u e => ?_, fun b qs e => ?_⟩
      · by_cases hb : b = P
        · rw [hb]
          exact ⟨_, hP5⟩
        · exact ⟨o, k25 b o hb e⟩
      · rw [at2 b fun z => by rw [z, hP] at e; cases e]
        exact e
      · rw [at2 b fun z => by rw [z, hP] at e; cases e]
        exact e
      · by_cases hb : b = P
        · rw [hb, hP] at e
          cases e
          rw [hb, upd_same]
          exact ⟨more, rfl⟩
        · rw [at2 b hb, e]
          exact ⟨#[], by simp⟩
    have young : ∀ b, s2.heap.objs.size ≤ b → H1 b = none ∧ b ∉ frs X.stack := fun b hb => ⟨I1.hok.fresh hb, fun hm => by
      obtain ⟨_, o, ho, _⟩ := I1.stack.mem hm
      exact absurd (Nat.lt_of_lt_of_le (Heap.lt_size ho) hb) (Nat.lt_irrefl _)⟩
    have y3 := young h3.objs.size hsz
    have y5 := young h'.objs.size (by rw [szh']; exact Nat.le_succ_of_le hsz)
    have hfp2 : ∀ b ∈ fp, upd H1 P (.tbl (ps ++ more)) b = none ∧ b < s2.heap.objs.size := fun b hb => by
      have n := (hfp b hb).1
      obtain ⟨o, ho, _⟩ := T.obj _ _ t0 b hb
      exact ⟨by rw [at2 b (nP b n)]; exact n, Heap.lt_size ho⟩
    have hA3 : X.A.in1.in1.handled = none := hr.hd
    have hfr3 : X.A.in1.in1.frames = some X.stack := I1.ok.frames
    have hroom : Room k (X.A.in1.in1.deeper (gE X sc code h3.objs.size)) := ⟨hr.hd, by have := hr.dp; show X.A.depth + 1 + 3 * k + 5 < _; omega, by have := hr.un; show X.A.units + 1 + 1 + 3 + 16 * k + 200 < _; omega⟩
    have hel' := hel code h3.objs.size X.A.in1.in1 s2 H1 fp [(h'.objs.size, go)] hroom
    have neC : h'.objs.size ≠ h3.objs.size := by
      rw [szh']
      exact Nat.succ_ne_self _
    have J5 : Inv (gcx X (x :: xs) sc code h3.objs.size X.A.in1.in1 s2 H1 fp [(h'.objs.size, go)]) [] (none :: capV caps σ) (upd H1 P (.tbl (ps ++ more)))
        { s2 with heap := h'.push go, gens := s2.gens.push (.fresh (.compStart (.GeneratorExp elt [⟨.Name x px, iter, [], 0⟩] sc gpos) 0 (.ref it) .none (gE X sc code h3.objs.size))), drawn := s2.drawn, toks := tk + 1 + 1 + 1 } :=
      inv_beginG (s5 := { s2 with heap := h'.push go, gens := s2.gens.push (.fresh (.compStart (.GeneratorExp elt [⟨.Name x px, iter, [], 0⟩] sc gpos) 0 (.ref it) .none (gE X sc code h3.objs.size))), drawn := s2.drawn, toks := tk + 1 + 1 + 1 })
        I1 I5 S hcap hA3 hfr3 hfp hfp2 un hsz (hns.push go) (by rw [at2 _ (nP _ y3.1)]; exact y3.1) y3.2 hgoat (by rw [at2 _ (nP _ y5.1)]; exact y5.1) neC y5.2 (fun v q => by rw [← hgo] at q; cases q)
    have tn5 : tn 0 (h'.push go) := T.keep _ _ _ t0 fun b hb o e => k25 b o (nP b (hfp b hb).1) e
    have fpG : ∀ b ∈ fp, FpOk (gcx X (x :: xs) sc code h3.objs.size X.A.in1.in1 s2 H1 fp [(h'.objs.size, go)]) [] (upd H1 P (.tbl (ps ++ more))) b := fun b hb => by
      obtain ⟨f0, f1, f2, f3, f4, f5⟩ := hfp b hb
      have lt := (hfp2 b hb).2
      refine ⟨(hfp2 b hb).1, Nat.ne_of_lt (Nat.lt_of_lt_of_le lt hsz), fun hm => ?_, .inl hb, fun y c e => f4 y c (NdefX.clo_cm S.free e), fun p hp z => ?_⟩
      · rcases List.mem_cons.mp (I1.stkSub b hm) with z | z
        · exact f1 z
        · exact f2 z
      · have hp' : p = (h'.objs.size, go) := by
          have q : p ∈ [(h'.objs.size, go)] ++ ([] : List (Addr × Obj)) := hp
          simpa using q
        subst hp'
        have z' : h'.objs.size = b := z
        rw [← z', szh'] at lt
        exact absurd (Nat.lt_of_lt_of_le lt (Nat.le_succ_of_le hsz)) (Nat.lt_irrefl _)
    refine hQ (gcx X (x :: xs) sc code h3.objs.size X.A.in1.in1 s2 H1 fp [(h'.objs.size, go)]) h'.objs.size s2.gens.size m go _ rfl rfl List.mem_cons_self (fun h e => ⟨go, _, _, e, by rw [← hgo], by rw [← hgo], by rw [← hgo]⟩) ?_ (fun b s' ov => ?_)
    · refine ⟨⟨go, _, _, ?_, by rw [← hgo], by rw [← hgo], by rw [← hgo]⟩, ?_, bare5, _, Array.getElem?_push_size .., fun s' z => ⟨rfl, ?_⟩⟩
      · exact hgoat
      · exact J5.nolimit
      · have z' : Still s2.gens.size { s2 with heap := h'.push go, gens := s2.gens.push (.fresh (.compStart (.GeneratorExp elt [⟨.Name x px, iter, [], 0⟩] sc gpos) 0 (.ref it) .none (gE X sc code h3.objs.size))), drawn := s2.drawn, toks := tk + 1 + 1 + 1 } s' :=
          ⟨z.heap, z.os, z.bare, z.sz⟩
        have J6 := inv_still J5 z'
        refine seg_startG (J := J) (W := W) (te := te) (x := x) (σc := capV caps σ) T S.loc S.co hnd rfl hel' hgW m 0 s' s' _ none w0 J6 fpG ?_ z.sz
        rw [z'.heap]
        exact tn5
    · obtain ⟨pins', σ', H', J', q⟩ := ov
      refine ⟨.bl b, H', ?_, rfl, q⟩
      refine I1.call' (ch := fp) (by rw [J'.os]; rfl) J'.base J'.hok J'.bare fun b hb => ?_
      obtain ⟨f0, f1, f2, f3, f4, f5⟩ := hfp b hb
      exact ⟨f3, f1, f4, f5⟩
  cases hf : codeAmong gpos ps.toList with
  | none =>
    refine wpAny_genexprCodeX hcode (cdh.code hPs ht) (cdh.tab hPs) hf fun c' h' tk hx hge hlt hco' _ htab' _ => ?_
    obtain ⟨o1, vs, f1, tf, fl, tg, inF, tx, tt, op, _, _, _, _, _, _, _, _, _, htr, _⟩ := hco'
    exact main _ h' tk _ hx (Nat.le_trans hge (Nat.le_of_lt hlt)) htab'.2 ⟨_, rfl⟩ htr
  | some cv =>
    refine wpAny_genexprCode_hit hcode (cdh.code hPs ht) hf ?_
    exact main cv s2.heap s2.toks ps (Heap.ExtBut.refl _ _) (Nat.le_refl _) hPs ⟨#[], by simp⟩ ht

theorem pe_allG {c P : Addr} {elt iter : Expr} {x : Str} {xs : List Str} {caps : List Nat} {px p pos gpos : Pos} {sc : Scope} {wi : TI} {te : TE} {k : Nat}
    (hr : Room (k + 1) X.A) (hg : Gl X "all") (hm : X.mg "all" = none) (TB : TabB X.base X.mg c P) (hcode : X.env.code = .ref c) (S : GenS X.env sc x) (hcap : CapsOk X sc caps xs) (hnd : (x :: xs).Nodup) (hi : PI X (.Name x px) iter wi)
    (hel : ∀ (cd : Value) (C : Addr) (A : Around) (s2 : Shared) (H1 : Hp) (fp : List Addr) (pn : List (Addr × Obj)), Room k (A.deeper (gE X sc cd C)) → PE (gcx X (x :: xs) sc cd C A s2 H1 fp pn) elt te)
    (hs : ∀ v, genFold iter X.env v = pure v) (hb : bootBuiltins "all" = some (.builtin "all") := by decide +kernel)
    (he : starEach [.GeneratorExp elt [⟨.Name x px, iter, [], 0⟩] sc gpos] X.env = (false, eval (.GeneratorExp elt [⟨.Name x px, iter, [], 0⟩] sc gpos) X.env) :: starEach [] X.env := by rfl) :
    PE X (.Call (.Name "all" p) [.GeneratorExp elt [⟨.Name x px, iter, [], 0⟩] sc gpos] [] pos) (tGx true P caps wi te) := by
  refine ⟨fun pins s σ H Q I h => ?_⟩
  refine wpAny_Call_Name_kw (ld_blt I hg hm hb ?_)
  refine PyProof.Rows.callWith_builtin1 ?_ he (by rfl)
  rw [he]
  show wpAny _ _ (spliced ((false, eval (.GeneratorExp elt [⟨.Name x px, iter, [], 0⟩] sc gpos) X.env) :: backTo pos (starEach [] X.env))) _ _ s
  refine Calls.spliced_cons (gen_make hr TB hcode S hcap hnd hi hel hs I h fun X' a g m go s5 e1 e2 hp hgo rd hfin => ?_)
  refine Calls.spliced_nil ?_
  have hd : X.A.depth < recursionLimit := hr.depth
  refine call_function_tree F.kind_all F.plain_all F.entry_all (F.args_all1 _) ?_
  unfold Builtin.«all»
  refine wpAny_bind (m := oneArg "all" _) (wpAny_pure ?_)
  refine wpAny_bind (wpAny_pyIter_gen rd.1 ?_)
  rw [← e1, ← e2] at rd ⊢
  exact wpAny_pure ⟨plainId_quiet F.plain_all_loop _, all_G (A := X.A) hr.hd hd hp hgo (fun b s' ov => hfin b s' ov) m s5 rd⟩
theorem pe_anyG {c P : Addr} {elt iter : Expr} {x : Str} {xs : List Str} {caps : List Nat} {px p pos gpos : Pos} {sc : Scope} {wi : TI} {te : TE} {k : Nat}
    (hr : Room (k + 1) X.A) (hg : Gl X "any") (hm : X.mg "any" = none) (TB : TabB X.base X.mg c P) (hcode : X.env.code = .ref c) (S : GenS X.env sc x) (hcap : CapsOk X sc caps xs) (hnd : (x :: xs).Nodup) (hi : PI X (.Name x px) iter wi)
    (hel : ∀ (cd : Value) (C : Addr) (A : Around) (s2 : Shared) (H1 : Hp) (fp : List Addr) (pn : List (Addr × Obj)), Room k (A.deeper (gE X sc cd C)) → PE (gcx X (x :: xs) sc cd C A s2 H1 fp pn) elt te)
    (hs : ∀ v, genFold iter X.env v = pure v) (hb : bootBuiltins "any" = some (.builtin "any") := by decide +kernel)
    (he : starEach [.GeneratorExp elt [⟨.Name x px, iter, [], 0⟩] sc gpos] X.env = (false, eval (.GeneratorExp elt [⟨.Name x px, iter, [], 0⟩] sc gpos) X.env) :: starEach [] X.env := by rfl) :
    PE X (.Call (.Name "any" p) [.GeneratorExp elt [⟨.Name x px, iter, [], 0⟩] sc gpos] [] pos) (tGx false P caps wi te) := by
  refine ⟨fun pins s σ H Q I h => ?_⟩
  refine wpAny_Call_Name_kw (ld_blt I hg hm hb ?_)
  refine PyProof.Rows.callWith_builtin1 ?_ he (by rfl)
  rw [he]
  show wpAny _ _ (spliced ((false, eval (.GeneratorExp elt [⟨.Name x px, iter, [], 0⟩] sc gpos) X.env) :: backTo pos (starEach [] X.env))) _ _ s
  refine Calls.spliced_cons (gen_make hr TB hcode S hcap hnd hi hel hs I h fun X' a g m go s5 e1 e2 hp hgo rd hfin => ?_)
  refine Calls.spliced_nil ?_
  have hd : X.A.depth < recursionLimit := hr.depth
  refine call_function_tree F.kind_any F.plain_any F.entry_any (F.args_any1 _) ?_
  unfold Builtin.«any»
  refine wpAny_bind (m := oneArg "any" _) (wpAny_pure ?_)
  refine wpAny_bind (wpAny_pyIter_gen rd.1 ?_)
  rw [← e1, ← e2] at rd ⊢
  exact wpAny_pure ⟨plainId_quiet F.plain_any_loop _, any_G (A := X.A) hr.hd hd hp hgo (fun b s' ov => hfin b s' ov) m s5 rd⟩
end
end GxA

set_option maxHeartbeats 2000000
/-! sorted of lists, and of sets, of tuples of ints: any number, any lengths. -/
namespace SrT
open PySem PySem.Spec PyProof.Rows L2 PySem.W
/-- v is a tuple of the ints ns -/
def IsI (h : Heap) (v : Value) (ns : List Int) : Prop := ∃ (a : Addr) (items : Array Value), v = .ref a ∧ IsTup h a items ∧ IntsAre items.toList ns
theorem IsI.keeps {h h' : Heap} {v : Value} {ns : List Int} (x : IsI h v ns) (k : ∀ b o, v = .ref b → h.get? b = some o → h'.get? b = some o) : IsI h' v ns := by
  obtain ⟨a, items, e, ⟨o, ho, r⟩, i⟩ := x
  exact ⟨a, items, e, ⟨o, k _ _ e ho, r⟩, i⟩
theorem IsI.type {M : Model} {h : Heap} {v : Value} {ns : List Int} (x : IsI h v ns) : Looks M h (typeOf v) (.type "tuple") := by
  obtain ⟨a, items, rfl, ⟨o, ho, hc, n, hd⟩, i⟩ := x
  have q : Looks M h (typeOf (.ref a)) o.cls := (Looks.ld ho).andThen .now
  rw [hc] at q
  exact q
theorem IsI.inj {h : Heap} {v : Value} {ns ms : List Int} (x : IsI h v ns) (y : IsI h v ms) : ns = ms := by
  obtain ⟨a, items, rfl, ⟨o, ho, hc, n, hd⟩, i⟩ := x
  obtain ⟨a', items', e, ⟨o', ho', hc', n', hd'⟩, i'⟩ := y
  cases e
  rw [ho] at ho'
  cases ho'
  rw [hd] at hd'
  cases hd'
  have e1 := i.numsOf
  have e2 := i'.numsOf
  exact e1.symm.trans e2
section
variable {prog : Program} {w : World} {A : Around} {E : Value → Shared → Prop} {s : Shared}
theorem lex_run {b : Bool} {Q : Bool → Shared → Prop} : ∀ (vs us : List Value) (ns ms : List Int) (i : Nat) (fin : Bool), IntsAre vs ns → IntsAre us ms → fin = decide (ns.length < ms.length) → Q (HT.lexLt ns ms) s → KatLex prog w A b fin Q (vs.zip us) i s
  | [], us, ns, ms, i, fin, h1, h2, hf, h => by
    cases h1
    cases h2 with
    | nil =>
      rw [hf]
      exact kat_nil h
    | cons n t h2 =>
      rw [hf]
      exact kat_nil h
  | v :: vs, [], ns, ms, i, fin, h1, h2, hf, h => by
    cases h2
    cases h1 with
    | cons n t h1 =>
      rw [hf]
      exact kat_nil h
  | v :: vs, u :: us, ns, ms, i, fin, h1, h2, hf, h => by
    cases h1 with
    | cons n t h1 =>
      cases h2 with
      | cons m t2 h2 =>
        rename_i ns ms
        rw [List.zip_cons_cons]
        refine kat_cons (wpAny_eqBool_int ?_)
        refine kat_go (fun e => kat_yes ?_) (fun e => kat_no ?_)
        · have hnm : n = m := by simpa using e
          subst hnm
          rw [HT.lexLt_cons, if_pos rfl] at h
          refine lex_run vs us ns ms (i + 1) fin h1 h2 ?_ h
          rw [hf, List.length_cons, List.length_cons]
          simp
        · have hnm : ¬ n = m := by simpa using e
          rw [HT.lexLt_cons, if_neg hnm] at h
          exact oneLt_any_int h
theorem lt_tuples {b : Bool} {v u : Value} {ns ms : List Int} {Q : Bool → Shared → Prop} (hv : IsI s.heap v ns) (hw : IsI s.heap u ms) (h : Q (HT.lexLt ns ms) s) : wpAny (model prog w) A (keyLt' (tuples' b) v u) Q E s := by
  obtain ⟨a, items, rfl, ⟨o, ho, hc, n, hd⟩, i⟩ := hv
  obtain ⟨a', items', rfl, ⟨o', ho', hc', n', hd'⟩, i'⟩ := hw
  refine kat_lt ho hd ho' hd' (lex_run _ _ ns ms 0 _ i i' ?_ h)
  rw [← i.length, ← i'.length, Array.length_toList, Array.length_toList]
theorem rich_lt {v u : Value} {ns ms : List Int} {Q : Value → Shared → Prop} (hu : A.units < cLine) (hv : IsI s.heap v ns) (hw : IsI s.heap u ms) (h : Q (.bool (HT.lexLt ns ms)) s) : wpAny (model prog w) A (richCompare .Lt v u) Q E s := by
  obtain ⟨a, items, rfl, t, i⟩ := hv
  obtain ⟨a', items', rfl, t', i'⟩ := hw
  exact (HT.lt_tupInts t t' i i' hu h : wpAny (model prog w) A (compareOp .Lt (.ref a) (.ref a')) Q E s)
theorem lt_general {v u : Value} {ns ms : List Int} {Q : Bool → Shared → Prop} (hu : A.units < cLine) (hv : IsI s.heap v ns) (hw : IsI s.heap u ms) (h : Q (HT.lexLt ns ms) s) : wpAny (model prog w) A (keyLt' general' v u) Q E s := by
  show wpAny (model prog w) A (oneLt' false v u) Q E s
  rw [oneLt'_eq]
  simp only [Bool.false_eq_true, if_false]
  exact wpAny_bind (rich_lt hu hv hw (wpAny_truthy_bool h))
theorem lt_one {v u : Value} {ns ms : List Int} {Q : Bool → Shared → Prop} (hu : A.units < cLine) (hv : IsI s.heap v ns) (hw : IsI s.heap u ms) (h : Q (HT.lexLt ns ms) s) : wpAny (model prog w) A (keyLt' oneType' v u) Q E s := by
  obtain ⟨a, items, rfl, ⟨⟨cls, dd, data, sl⟩, ho, hc, n, hd⟩, i⟩ := hv
  obtain ⟨a', items', rfl, ⟨⟨cls', dd', data', sl'⟩, ho', hc', n', hd'⟩, i'⟩ := hw
  simp only at hc hd hc' hd'
  subst hc hd hc' hd'
  rw [keyLt'_oneType, oneLt'_eq]
  simp only [if_true]
  refine wpAny_bind (wpAny_cRoomFor hu ?_)
  refine wpAny_bind (wpAny_callSpecialIfBound?_slot (T := "tuple") (name := Str.ofString "__lt__") ⟨_, ho, rfl⟩ PySem.F.slot_tuple_lt ?_)
  refine call_meets PySem.F.slot_tuple_lt ⟨_, ho, rfl⟩ PySem.F.entry_tuple_lt (PySem.F.args_tuple_lt_2 _ _) (HT.tuple_lt_ints a a' items items' n n' dd dd' sl sl' ns ms i i') ⟨ho, ho', ?_⟩
  exact wpAny_truthy_bool h
/-- the first items -/
theorem firsts_run : ∀ (vs : List Value) (k : Value → List Int) {Q : List (Option Value) → Shared → Prop}, (∀ v ∈ vs, IsI s.heap v (k v)) →
    (∀ fs : List (Option Value), Paired (fun (v : Value) (f : Option Value) => match k v with | [] => f = none | x :: _ => ∃ t, f = some (Value.int x t)) vs fs → Q fs s) → wpAny (model prog w) A (vs.mapM firstOfTuple') Q E s
  | [], k, Q, _, h => by
    rw [List.mapM_nil]
    exact wpAny_pure (h [] .nil)
  | v :: vs, k, Q, hv, h => by
    rw [List.mapM_cons]
    refine wpAny_bind ?_
    have hv0 := hv v List.mem_cons_self
    have ht : Looks (model prog w) s.heap (typeOf v) (.type "tuple") := hv0.type
    obtain ⟨a, items, e, ⟨o, ho, hc, n, hd⟩, i⟩ := hv0
    rw [kas_first_eq]
    refine wpAny_bind (ht.here ?_)
    rw [if_neg (by decide +kernel)]
    rw [e]
    refine wpAny_bind (listItems_at ho hd (wpAny_pure ?_))
    refine wpAny_bind (firsts_run vs k (fun u hu => hv u (List.mem_cons_of_mem _ hu)) fun fs hp => wpAny_pure (h _ (.cons ?_ hp)))
    have ei : items[0]? = items.toList[0]? := by rw [Array.getElem?_toList]
    rw [ei]
    cases hk : k v with
    | nil =>
      rw [hk] at i
      generalize items.toList = l at i
      cases i
      rfl
    | cons x r =>
      rw [hk] at i
      generalize items.toList = l at i
      cases i with
      | cons n t i => exact ⟨t, rfl⟩
theorem some_of : ∀ {vs : List Value} {k : Value → List Int} {fs : List (Option Value)}, Paired (fun (v : Value) (f : Option Value) => match k v with | [] => f = none | x :: _ => ∃ t, f = some (Value.int x t)) vs fs →
    (fs.all (·.isSome)) = true → ∃ gs : List Value, fs = gs.map some ∧ ∀ g ∈ gs, ∃ x t, g = Value.int x t
  | _, _, _, .nil, _ => ⟨[], rfl, fun g hg => absurd hg (by simp)⟩
  | v :: vs, k, f :: fs, .cons r p, h => by
    rw [List.all_cons, Bool.and_eq_true] at h
    obtain ⟨gs, e, hg⟩ := some_of p h.2
    cases hk : k v with
    | nil =>
      simp only [hk] at r
      rw [r] at h
      exact absurd h.1 (by simp)
    | cons x y =>
      simp only [hk] at r
      obtain ⟨t, r⟩ := r
      refine ⟨Value.int x t :: gs, by rw [r, e]; rfl, fun g hg' => ?_⟩
      rcases List.mem_cons.mp hg' with z | z
      · exact ⟨x, t, z⟩
      · exact hg g z
/-- the kind that the sort picks -/
def kindT (l : List (List Int)) : SortKind := if l.all (fun k => !k.isEmpty) = true then tuples' true else if (l.head?.elim true (·.isEmpty)) = true then oneType' else general'
theorem kindT_one (l : List (List Int)) : kindT l = general' ∨ kindT l = oneType' ∨ ∃ b, kindT l = tuples' b := by
  unfold kindT
  split
  · exact .inr (.inr ⟨true, rfl⟩)
  · split
    · exact .inr (.inl rfl)
    · exact .inl rfl
theorem all_some : ∀ {vs : List Value} {k : Value → List Int} {fs : List (Option Value)}, Paired (fun (v : Value) (f : Option Value) => match k v with | [] => f = none | x :: _ => ∃ t, f = some (Value.int x t)) vs fs →
    fs.all (·.isSome) = (vs.map k).all (fun k => !k.isEmpty)
  | _, _, _, .nil => rfl
  | v :: vs, k, f :: fs, .cons r p => by
    rw [List.all_cons, List.map_cons, List.all_cons, all_some p]
    cases hk : k v with
    | nil =>
      simp only [hk] at r
      rw [r]
      rfl
    | cons x y =>
      simp only [hk] at r
      obtain ⟨t, r⟩ := r
      rw [r]
      rfl
theorem kind_run {vs : List Value} {k : Value → List Int} {Q : SortKind → Shared → Prop} (h2 : 2 ≤ vs.length) (hv : ∀ v ∈ vs, IsI s.heap v (k v)) (h : Q (kindT (vs.map k)) s) :
    wpAny (model prog w) A (keyKind' vs.toArray) Q E s := by
  rw [keyKind'_eq, List.mapM_toArray, map_eq_pure_bind]
  refine wpAny_bind (wpAny_bind (firsts_run vs k hv fun fs hp => wpAny_pure ?_))
  have hal := all_some hp
  have tr : ∀ (T : Value) (l : List Value) (R : Option Value → Shared → Prop) (hT : (T == T) = true), 0 < l.length → R (some T) s → wpAny (model prog w) A (match ((l.map fun _ => T).toArray)[0]? with
      | some t => pure (if ((l.map fun _ => T).toArray.all (· == t)) = true then some t else none)
      | none => pure none) R E s := by
    intro T l R hT hl hR
    match l, hl with
    | y :: l, _ =>
      have h0 : ((List.map (fun _ => T) (y :: l)).toArray)[0]? = some T := by simp
      rw [h0]
      have h1 : ((List.map (fun _ => T) (y :: l)).toArray.all (· == T)) = true := by
        simp only [List.all_toArray, List.all_map, List.all_eq_true]
        intro _ _
        exact hT
      simp only [h1, if_true]
      exact wpAny_pure hR
  by_cases ha : fs.all (·.isSome) = true
  · rw [if_pos (show fs.toArray.all (·.isSome) = true by simpa using ha)]
    refine wpAny_bind (wpAny_rule ?_)
    obtain ⟨gs, e, hg⟩ := some_of hp ha
    have hfm : (fs.toArray.filterMap id) = gs.toArray := by rw [e]; simp
    have hgl : 0 < gs.length := by
      have q := Paired.length hp
      rw [e, List.length_map] at q
      omega
    rw [hfm, oneTypeOnly'_eq, List.mapM_toArray, map_eq_pure_bind]
    refine wpAny_bind (wpAny_bind (wpAny_bind (kas_mapM (r := Value.type "int") _ (fun v hv' Q' hq => ?_) (wpAny_pure ?_))))
    · obtain ⟨x, t, rfl⟩ := hg v hv'
      exact wpAny_pure hq
    · refine tr (.type "int") gs _ (by rfl) hgl ?_
      refine wpAny_pure ?_
      have e1 : kindT (vs.map k) = tuples' true := by
        unfold kindT
        rw [if_pos (by rw [← hal]; exact ha)]
      rw [e1] at h
      have e2 : ((some (Value.type "int")).any fun x => x != Value.type "tuple") = true := by decide +kernel
      rw [e2]
      exact h
  · rw [if_neg (show ¬ fs.toArray.all (·.isSome) = true by simpa using ha)]
    have hne : ¬ (vs.map k).all (fun k => !k.isEmpty) = true := by
      rw [← hal]
      exact ha
    match vs, fs, hp, h2 with
    | v :: vs, f :: fs, .cons r p, h2 =>
      have hk1 : kindT ((v :: vs).map k) = if (k v).isEmpty = true then oneType' else general' := by
        unfold kindT
        rw [if_neg hne]
        rfl
      rw [hk1] at h
      cases hk : k v with
      | nil =>
        simp only [hk] at r
        rw [hk, if_pos (show ([] : List Int).isEmpty = true from rfl)] at h
        have e0 : ((f :: fs).toArray[0]?.bind id).isSome = false := by
          rw [r]
          rfl
        rw [if_neg (by rw [e0]; exact Bool.false_ne_true), oneTypeOnly'_eq, List.mapM_toArray, map_eq_pure_bind]
        refine wpAny_bind (wpAny_bind (wpAny_bind (kas_mapM (r := Value.type "tuple") _ (fun v hv' Q' hq => (hv v hv').type.here hq) (wpAny_pure ?_))))
        refine tr (.type "tuple") (v :: vs) _ (by rfl) (by simp) ?_
        exact wpAny_pure h
      | cons x y =>
        simp only [hk] at r
        obtain ⟨t, r⟩ := r
        rw [hk, if_neg (by simp)] at h
        have e0 : ((f :: fs).toArray[0]?.bind id).isSome = true := by
          rw [r]
          rfl
        rw [if_pos e0]
        exact wpAny_pure h
end
end SrT

set_option maxHeartbeats 2000000
namespace SrT
open PySem PySem.Spec PyProof.Rows L2 PySem.W
/-! ### the order -/
abbrev lex := HT.lexLt
theorem lex_tot : ∀ xs ys : List Int, lex xs ys = false → lex ys xs = false → xs = ys
  | [], [], _, _ => rfl
  | [], _ :: _, h, _ => by cases h
  | _ :: _, [], _, h => by cases h
  | x :: xs, y :: ys, h1, h2 => by
    have a1 : (if x = y then lex xs ys else decide (x < y)) = false := h1
    have a2 : (if y = x then lex ys xs else decide (y < x)) = false := h2
    by_cases e : x = y
    · subst e
      rw [if_pos rfl] at a1 a2
      rw [lex_tot xs ys a1 a2]
    · rw [if_neg e] at a1
      rw [if_neg (Ne.symm e)] at a2
      have b1 := of_decide_eq_false a1
      have b2 := of_decide_eq_false a2
      omega
theorem lex_irrefl : ∀ xs : List Int, lex xs xs = false
  | [] => rfl
  | x :: xs => by
    show (if x = x then lex xs xs else decide (x < x)) = false
    rw [if_pos rfl]
    exact lex_irrefl xs
/-- a ≤ b -/
abbrev le (a b : List Int) : Bool := !lex b a
theorem le_trans' (a b c : List Int) (h1 : le a b = true) (h2 : le b c = true) : le a c = true := by
  have a1 : lex b a = false := by simpa [le] using h1
  have a2 : lex c b = false := by simpa [le] using h2
  have := (NtL.swo_lexL (fun x : List Int => x)).tr a b c a1 a2
  simpa [le] using this
theorem le_total' (a b : List Int) : (le a b || le b a) = true := by
  cases h : lex b a with
  | false => simp [le, h]
  | true =>
    have := NtL.lex_asym b a h
    simp [le, h, this]
def sortL (l : List (List Int)) : List (List Int) := l.mergeSort le
theorem sortL_perm (l : List (List Int)) : (sortL l).Perm l := List.mergeSort_perm l le
theorem sortL_pw (l : List (List Int)) : (sortL l).Pairwise (fun a b => le a b = true) := List.pairwise_mergeSort le_trans' le_total' l
theorem sorted_eq {l m : List (List Int)} (p : l.Perm m) (hl : l.Pairwise (fun a b => le a b = true)) (hm : m.Pairwise (fun a b => le a b = true)) : l = m := by
  refine List.Perm.eq_of_pairwise (fun a b _ _ h1 h2 => ?_) hl hm p
  exact lex_tot a b (by simpa [le] using h2) (by simpa [le] using h1)
theorem eq_sortL {l m : List (List Int)} (p : l.Perm m) (hl : l.Pairwise (fun a b => le a b = true)) : l = sortL m :=
  sorted_eq (p.trans (sortL_perm m).symm) hl (sortL_pw m)

/-! ### values -/
/-- what an int tuple's value holds -/
noncomputable def keyV (h : Heap) (v : Value) : List Int := by
  classical
  exact if e : ∃ ns, IsI h v ns then e.choose else []
theorem keyV_of {h : Heap} {v : Value} {ns : List Int} (x : IsI h v ns) : keyV h v = ns := by
  have e : ∃ ns, IsI h v ns := ⟨ns, x⟩
  unfold keyV
  rw [dif_pos e]
  exact e.choose_spec.inj x
theorem isI_key {h : Heap} {v : Value} (e : ∃ ns, IsI h v ns) : IsI h v (keyV h v) := by
  obtain ⟨ns, x⟩ := e
  rw [keyV_of x]
  exact x
section
variable {prog : Program} {w : World} {A : Around} {E : Value → Shared → Prop} {s : Shared}
theorem cmp_of {κ : SortKind} (hκ : κ = general' ∨ κ = oneType' ∨ (∃ b, κ = tuples' b)) {vs : List Value} {k : Value → List Int} (hu : A.units < cLine) (hv : ∀ v ∈ vs, IsI s.heap v (k v)) :
    SrtO.Cmp prog w A s κ (fun p => p.1 ∈ vs) (SrtO.lt2 fun v u => lex (k v) (k u)) := by
  intro p q hp hq
  rcases hκ with rfl | rfl | ⟨b, rfl⟩
  · exact lt_general (Q := fun r s' => s' = s ∧ r = lex (k p.1) (k q.1)) (E := fun _ _ => False) hu (hv p.1 hp) (hv q.1 hq) ⟨rfl, rfl⟩
  · exact lt_one (Q := fun r s' => s' = s ∧ r = lex (k p.1) (k q.1)) (E := fun _ _ => False) hu (hv p.1 hp) (hv q.1 hq) ⟨rfl, rfl⟩
  · exact lt_tuples (Q := fun r s' => s' = s ∧ r = lex (k p.1) (k q.1)) (E := fun _ _ => False) (hv p.1 hp) (hv q.1 hq) ⟨rfl, rfl⟩
theorem ti_sortable {a : Addr} {vs : List Value} {k : Value → List Int} (h2 : 2 ≤ vs.length) (hu : A.units < cLine) (hv : ∀ v ∈ vs, IsI s.heap v (k v)) (ha : ∀ v ∈ vs, v ≠ .ref a) :
    SrtO.SortableO prog w A s a vs fun v u => lex (k v) (k u) := by
  intro h' keep
  have hv' : ∀ v ∈ vs, IsI h' v (k v) := fun v hm => (hv v hm).keeps fun b o e g => keep b o (fun z => ha v hm (by rw [e, z])) g
  exact ⟨kindT (vs.map k), fun Q E hq => kind_run (s := { s with heap := h' }) h2 hv' hq, cmp_of (s := { s with heap := h' }) (kindT_one _) hu hv'⟩
end
section
variable {X : Cx} {pins : List (Addr × Obj)} {σ : L2.St} {H : Hp} {s : Shared}
theorem isI_of (I : Inv X pins σ H s) {x : V} {u : Value} {ns : List Int} (h : TupI X.K H x ns) (r : RelV x u) : IsI s.heap u ns := by
  obtain ⟨t, rfl, hs⟩ := h
  cases r
  obtain ⟨its, rv, p, _⟩ := I.tuple hs
  exact ⟨t, its.toArray, rfl, p, by simpa using intsAre_of rv⟩
theorem keys_of (I : Inv X pins σ H s) : ∀ {xs : List V} {us : List Value} {fss : List (List Int)}, Vals xs us → Paired (TupI X.K H) xs fss → us.map (keyV s.heap) = fss ∧ ∀ u ∈ us, IsI s.heap u (keyV s.heap u)
  | _, _, _, .nil, .nil => ⟨rfl, fun u hu => absurd hu (by simp)⟩
  | _, _, _, .cons r t, .cons h q => by
    obtain ⟨e, f⟩ := keys_of I t q
    have hI := isI_of I h r
    refine ⟨by rw [List.map_cons, e, keyV_of hI], fun u hu => ?_⟩
    rcases List.mem_cons.mp hu with z | z
    · rw [z]
      exact isI_key ⟨_, hI⟩
    · exact f u z
theorem mem_refs (I : Inv X pins σ H s) {xs : List V} {us : List Value} {fss : List (List Int)} (r : Vals xs us) (q : Paired (TupI X.K H) xs fss) : ∀ x ∈ xs, ∃ a, x = V.ref a := by
  induction q generalizing us with
  | nil => intro x hx; exact absurd hx (by simp)
  | cons h q ih =>
    cases r with
    | cons _ t =>
      intro x hx
      rcases List.mem_cons.mp hx with z | z
      · obtain ⟨a, e, _⟩ := h
        exact ⟨a, z.trans e⟩
      · exact ih t x z
theorem paired_of {K : PySem.W.Frag} : ∀ {ys : List V} (g : V → List Int), (∀ y ∈ ys, TupI K H y (g y)) → Paired (TupI K H) ys (ys.map g)
  | [], _, _ => .nil
  | y :: ys, g, h => .cons (h y List.mem_cons_self) (paired_of g fun z hz => h z (List.mem_cons_of_mem _ hz))
theorem paired_mem {α β : Type} {F : α → β → Prop} : ∀ {xs : List α} {fs : List β}, Paired F xs fs → ∀ x ∈ xs, ∃ f ∈ fs, F x f
  | _, _, .nil, x, hx => absurd hx (by simp)
  | _, _, .cons h q, x, hx => by
    rcases List.mem_cons.mp hx with z | z
    · subst z
      exact ⟨_, List.mem_cons_self, h⟩
    · obtain ⟨f, hf, r⟩ := paired_mem q x z
      exact ⟨f, List.mem_cons_of_mem _ hf, r⟩
/-- sorted(xs) of tuples of ints -/
def rSortL (K : PySem.W.Frag) : List V → Hp → VK → Prop := fun vs H Q => ∃ (a : Addr) (xs : List V) (fss : List (List Int)), vs = [V.ref a] ∧ SqL K H a xs ∧ Paired (TupI K H) xs fss ∧
  ∀ (ys : List V) (p : Addr), Paired (TupI K H) ys (sortL fss) → (∀ y ∈ ys, y ∈ xs) → H p = none → Q (.ref p) (upd H p (.lst ys))
theorem cr_sortL (hu : X.A.units + 64 < cLine) : CallR X (.builtin "sorted") (rSortL X.K) := by
  intro pins s σ H vs us Q I r h
  obtain ⟨a, xs, fss, rfl, hs, hp, q⟩ := h
  obtain ⟨its, rv, hl, hz⟩ := I.list hs
  rw [Vals.ref1 r]
  obtain ⟨ek, hk⟩ := keys_of I rv hp
  obtain ⟨e1, e2⟩ := bkV_refs rv (mem_refs I rv hp)
  have hlen : its.length ≤ sizeLine := by
    rw [← rv.length]
    exact hz
  refine SrtO.sorted_ord (ltv := fun v u => lex (keyV s.heap v) (keyV s.heap u)) (NtL.swo_lexL (keyV s.heap)) hl.isList hlen (fun h2 h₁ b hb keep => ?_) fun out hs' hst => ?_
  · refine ti_sortable (s := { s with heap := h₁ }) (k := keyV s.heap) h2 (by show X.A.units + 1 + 1 < cLine; omega) (fun v hm => ?_) fun v hm z => ?_
    · exact (hk v hm).keeps fun c o _ e => (keep c o e).2
    · obtain ⟨c, items, e, ⟨o, ho, _⟩, _⟩ := hk v hm
      have z' : Value.ref c = Value.ref b := e.symm.trans z
      injection z' with z'
      exact (keep c o ho).1 z'
  · have hpm : out.Perm its := hst.perm
    have h3 : ∀ u ∈ out, ∃ c, u = Value.ref c := fun u hu => e2 u (hpm.mem_iff.mp hu)
    have hpx : (out.map bkV).Perm xs := by
      rw [e1]
      exact hpm.map bkV
    have hl2 : (out.map bkV).length ≤ sizeLine := by
      rw [hpx.length_eq]
      exact hz
    obtain ⟨ep, he'⟩ := PyProof.Rows.sortedAll_at s.heap its out.toArray
    refine ⟨.ref _, upd H (s.heap.objs.size + 1) (.lst (out.map bkV)), I.laid (t' := s.toks) (fun _ _ => PyProof.Rows.sortedAll_old) (Nat.le_succ _) ⟨hl2, out, ep, bkV_vals h3, by simpa using he'⟩, rfl, q _ _ ?_ (fun y hy => hpx.mem_iff.mp hy) (I.hok.fresh (Nat.le_succ _))⟩
    have es : out.map (keyV s.heap) = sortL fss := by
      refine eq_sortL ?_ ?_
      · rw [← ek]
        exact hpm.map _
      · refine List.pairwise_map.mpr (List.Pairwise.imp (fun {u v} huv => ?_) hs')
        show (!lex (keyV s.heap v) (keyV s.heap u)) = true
        rw [show lex (keyV s.heap v) (keyV s.heap u) = false from huv]
        rfl
    rw [← es]
    clear es hpx hl2 he' hst hs'
    have all : ∀ l : List Value, (∀ u ∈ l, u ∈ its) → Paired (TupI X.K H) (l.map bkV) (l.map (keyV s.heap)) := by
      intro l
      induction l with
      | nil => intro _; exact .nil
      | cons u l ih =>
        intro hl'
        refine .cons ?_ (ih fun v hv => hl' v (List.mem_cons_of_mem _ hv))
        have hm := hl' u List.mem_cons_self
        obtain ⟨c, rfl⟩ := e2 u hm
        have hx : V.ref c ∈ xs := by
          rw [e1]
          exact List.mem_map.mpr ⟨_, hm, rfl⟩
        obtain ⟨f, _, hf⟩ := paired_mem hp _ hx
        have : keyV s.heap (.ref c) = f := keyV_of (isI_of I hf rfl)
        rw [this]
        exact hf
    exact all out fun u hu => hpm.mem_iff.mp hu
end
end SrT

set_option maxHeartbeats 2000000
namespace SrT
open PySem PySem.Spec PyProof.Rows L2 PySem.W
section
variable {P : Program} {w : World} {A : Around} {E : Value → Shared → Prop} {s : Shared}
theorem isI_T {h : Heap} {k : List Int} {b : Addr} (x : IsT P w h k b) : IsI h (.ref b) k := by
  obtain ⟨a, items, e, t, i⟩ := tupInts_of (P := P) (w := w) x
  exact ⟨a, items, e, t, i⟩
theorem sort_call {a : Addr} {vs : List Value} {n : Nat} {k : Value → List Int} {Q : Value → Shared → Prop} (ho : s.heap.get? a = some (seqObj "list" vs.toArray n)) (hz : vs.length ≤ sizeLine) (hu : A.units + 1 < cLine) (hv : ∀ v ∈ vs, IsI s.heap v (k v))
    (h : ∀ out : List Value, out.Pairwise (fun u v => lex (k v) (k u) = false) → out.Perm vs → Q .none { s with heap := sortedHeap s.heap a vs out.toArray }) :
    wpAny (model P w) A (call (.builtin "list.sort") [.ref a]) Q E s := by
  refine wpAny_call_entry slot_list_sort ⟨_, ho, rfl⟩ entry_list_sort (SrtO.list_sort_ord (A := A.in1) (ltv := fun v u => lex (k v) (k u)) (NtL.swo_lexL k) ho hz (fun h2 => ti_sortable h2 hu hv fun v hm z => ?_) fun out hs hb => ⟨_, rfl, h out hs hb.perm⟩) (args_list_sort _)
  obtain ⟨c, items, e, ⟨o, ho2, hc, _⟩, _⟩ := hv v hm
  have z' : Value.ref c = Value.ref a := e.symm.trans z
  injection z' with z'
  rw [z', ho] at ho2
  cases ho2
  exact absurd (Value.type.inj hc) (by decide)
theorem sorted_setS {a : Addr} {L : List (Addr × List Int)} {es : Array (Int × Value)} {ep : Nat} {t : SetTable} {Q : Value → Shared → Prop} (R : SetTR P w s.heap a L es ep t) (hh : A.handled = none) (hu : A.units + 2 < cLine)
    (hQ : ∀ (s' : Shared) (p : Addr) (out : List Value) (c : Nat), (∀ b o, s.heap.get? b = some o → s'.heap.get? b = some o) → s'.gens = s.gens → s'.os = s.os → s.heap.objs.size ≤ p →
      s'.heap.get? p = some (seqObj "list" out.toArray c) → out.Perm (L.map fun q => Value.ref q.1) → out.Pairwise (fun u v => lex (keyV s.heap v) (keyV s.heap u) = false) → Q (.ref p) s') :
    wpAny (model P w) A (call (.builtin "sorted") [.ref a]) Q E s := by
  obtain ⟨o, ho, hex, hd⟩ := R.ob
  have few := R.few
  have size := R.size
  refine Calls.call_function_entry kind_sorted plain_sorted entry_sorted (args_sorted1 _) ?_
  unfold Builtin.«sorted»
  refine wpAny_bind (m := checkCount "sorted" 1 1 _) (wpAny_pure ?_)
  refine wpAny_bind (collect_set (A := A.in1) hh ⟨o, ho, hex.1, hd⟩ R.fits (by unfold scanBound; omega) R.tab.ris R.led fun s1 vs kp hz gens os pm => ?_)
  have rows : es.toList.map (·.2) = L.map fun q => Value.ref q.1 := by
    rw [R.rows]
    unfold L2.rowsOf
    rw [List.map_map] <;> rfl
  rw [rows] at pm
  have lv : vs.length ≤ sizeLine := by
    rw [pm.length_eq, List.length_map, sizeLine_eq]
    omega
  refine wpAny_bind (wpAny_newList ?_ lv)
  have hoL : (s1.heap.push (seqObj "list" vs.toArray 0)).get? s1.heap.objs.size = some (seqObj "list" vs.toArray 0) := Heap.get?_push_size _ rfl
  have ki : ∀ v ∈ vs, IsI (s1.heap.push (seqObj "list" vs.toArray 0)) v (keyV s.heap v) := fun v hv => by
    obtain ⟨q, hq, e⟩ := List.mem_map.mp (pm.mem_iff.mp hv)
    have hi := isI_T (R.tup q hq)
    rw [← e]
    rw [keyV_of hi]
    exact hi.keeps fun b u _ g => Heap.get?_push_of_some _ (kp b u g)
  refine wpAny_bind (wpAny_holding (sort_call (s := { s1 with heap := s1.heap.push (seqObj "list" vs.toArray 0) }) (A := A.in1) hoL lv (by show A.units + 1 + 1 < cLine; omega) ki fun out pw pe => ?_))
  obtain ⟨c, hc⟩ := sortedHeap_at (vs := vs) (out := out.toArray) hoL
  refine wpAny_pure ⟨_, rfl, hQ _ s1.heap.objs.size out c (fun b u e => ?_) gens os hz hc (pe.trans pm) pw⟩
  have q := kp b u e
  have lt := Heap.lt_size q
  show (sortedHeap (s1.heap.push (seqObj "list" vs.toArray 0)) s1.heap.objs.size vs out.toArray).get? b = some u
  rw [sortedHeap_old (Nat.ne_of_lt lt) (by rw [size_push']; exact Nat.lt_succ_of_lt lt)]
  exact Heap.get?_push_of_some _ q
end
section
variable {X : Cx} {pins : List (Addr × Obj)} {σ : L2.St} {H : Hp} {s : Shared}
/-- sorted(a set of tuples of ints) -/
def rSortS (K : PySem.W.Frag) (P : Program) (w : World) : List V → Hp → VK → Prop := fun vs H Q => ∃ (a : Addr) (L : List (Addr × List Int)), vs = [V.ref a] ∧ H a = some (SetTO P w a L) ∧ (∀ p ∈ L, SqT K H p.1 (p.2.map V.int)) ∧
  ∀ (ys : List V) (gss : List (List Int)) (p : Addr), Paired (TupI K H) ys gss → gss.Pairwise (fun x y => lex x y = true) → (∀ z, z ∈ gss ↔ z ∈ L.map (·.2)) → ys.length < 64 → H p = none → Q (.ref p) (upd H p (.lst ys))
theorem cr_sortS (hc : X.calm = true) (hu : X.A.units + 64 < cLine) : CallR X (.builtin "sorted") (rSortS X.K X.prog X.w) := by
  intro pins s σ H vs us Q I r h
  obtain ⟨a, L, rfl, ha, hL, q⟩ := h
  rw [Vals.ref1 r]
  have hT : ∀ p ∈ L, IsT X.prog X.w s.heap p.2 p.1 := fun p hp => Inv.isT I (hL p hp)
  obtain ⟨es, ep, t, R⟩ := SetT0.full (P := X.prog) (w := X.w) (show SetT0 X.prog X.w s.heap a L from (I.hok a _ ha).1) hT
  refine sorted_setS R (I.ok.hd hc) (by omega) fun s' p out c kp gens os hz hc' pm pw => ?_
  have refs : ∀ u ∈ out, ∃ c, u = Value.ref c := fun u hu => by
    obtain ⟨z, hz, e⟩ := List.mem_map.mp (pm.mem_iff.mp hu)
    exact ⟨z.1, e.symm⟩
  have hlen : out.length < 64 := by
    rw [pm.length_eq, List.length_map]
    exact R.few
  have kk : ∀ z ∈ L, keyV s.heap (.ref z.1) = z.2 := fun z hz => keyV_of (isI_T (hT z hz))
  have J : Inv X pins σ (upd H p (.lst (out.map bkV))) s' := by
    obtain ⟨hh, g, d, tk, oo⟩ := s'
    have e1 : g = s.gens := gens
    have e2 : oo = s.os := os
    subst e1 e2
    have J0 := I.laid (a := p) (o := .lst (out.map bkV)) (h' := hh) (t' := tk) kp hz ⟨by rw [List.length_map]; exact Nat.le_of_lt (Nat.lt_trans hlen (by rw [sizeLine_eq]; decide)), out, c, bkV_vals refs, hc'⟩
    exact J0.call' (s' := ⟨hh, s.gens, d, tk, s.os⟩) (ch := []) rfl Un.refl J0.hok J0.bare fun b hb => absurd hb (by simp)
  refine ⟨.ref p, upd H p (.lst (out.map bkV)), J, rfl, q (out.map bkV) (out.map (keyV s.heap)) p ?_ ?_ (fun z => ?_) (by rw [List.length_map]; exact hlen) (I.hok.fresh hz)⟩
  · have all : ∀ l : List Value, (∀ u ∈ l, u ∈ out) → Paired (TupI X.K H) (l.map bkV) (l.map (keyV s.heap)) := by
      intro l
      induction l with
      | nil => intro _; exact .nil
      | cons u l ih =>
        intro hl'
        refine .cons ?_ (ih fun v hv => hl' v (List.mem_cons_of_mem _ hv))
        obtain ⟨z, hz, e⟩ := List.mem_map.mp (pm.mem_iff.mp (hl' u List.mem_cons_self))
        rw [← e, kk z hz]
        exact ⟨z.1, rfl, hL z hz⟩
    exact all out fun u hu => hu
  · have nd : (out.map (keyV s.heap)).Nodup := by
      have e : (L.map fun q => Value.ref q.1).map (keyV s.heap) = L.map (·.2) := by
        rw [List.map_map]
        exact List.map_congr_left fun z hz => kk z hz
      have pm2 := pm.map (keyV s.heap)
      rw [e] at pm2
      exact pm2.nodup_iff.mpr R.nd
    have pw2 : (out.map (keyV s.heap)).Pairwise (fun x y => lex y x = false) := List.pairwise_map.mpr pw
    refine List.Pairwise.imp₂ (fun x y h1 h2 => ?_) pw2 nd
    cases e : lex x y with
    | true => rfl
    | false => exact absurd (lex_tot x y e h1) h2
  · have e : (L.map fun q => Value.ref q.1).map (keyV s.heap) = L.map (·.2) := by
      rw [List.map_map]
      exact List.map_congr_left fun z hz => kk z hz
    have pm2 := pm.map (keyV s.heap)
    rw [e] at pm2
    exact pm2.mem_iff
end
end SrT

set_option maxHeartbeats 2000000
/-! {elt for .. in .. if .. for .. in .. if ..}, elt a tuple of ints; one loop of a comprehension, said once for all clauses. -/
namespace SrT
open PySem PySem.Spec PyProof.Rows L2 PySem.W
section
variable {P : Program} {w : World} {A : Around} {E : Value → Shared → Prop} {s : Shared}
theorem setT_type {a : Addr} {L : List (Addr × List Int)} {es : Array (Int × Value)} {ep : Nat} {t : SetTable} (R : SetTR P w s.heap a L es ep t) : s.TypeIs (.ref a) "set" := by
  obtain ⟨o, ho, hex, _⟩ := R.ob
  exact ⟨o, ho, hex.1⟩
/-- set.add of a tuple of ints, raw -/
theorem addT_raw {a x : Addr} {L : List (Addr × List Int)} {es : Array (Int × Value)} {ep : Nat} {t : SetTable} {k : List Int} {Q : Value → Shared → Prop} (R : SetTR P w s.heap a L es ep t) (hx : IsT P w s.heap k x) (hu : A.units + 1 < cLine) (hfew : L.length + 1 < 64)
    (hQ : ∀ h' tk L' es' ep' t', Heap.SameBut a s.heap h' → SetTR P w h' a L' es' ep' t' → (k ∈ L.map (·.2) → L' = L) → (k ∉ L.map (·.2) → L'.Perm ((x, k) :: L)) → Q .none { s with heap := h', toks := tk }) :
    wpAny (model P w) A (call (.builtin "set.add") [.ref a, .ref x]) Q E s := by
  refine wpAny_call_entry F.slot_set_add (setT_type R) F.entry_set_add ?_ (F.args_set_add_2 _ _)
  unfold Builtin.«set.add» Builtin.Frozenset.oneOther
  simp only [List.isEmpty_nil, bind_assoc]
  unfold Builtin.Frozenset.addrOf setAdd
  refine wpAny_bind (wpAny_pure ?_)
  try dsimp only
  refine wpAny_bind (wpAny_pure ?_)
  try dsimp only
  refine wpAny_bind ?_
  refine wpAny_holding ?_
  refine wpAny_bind (wpAny_pyHash_tuple (A := A.in1) hu hx ?_)
  refine add_at (A := A.in1) (s := { s with toks := s.toks + (k.length + 1) }) R hx hu hfew fun b h' L' es' ep' t' sb r c1 c2 => ?_
  show wpAny _ _ (ret Value.none) _ _ _
  exact wpAny_pure ⟨_, rfl, hQ h' _ L' es' ep' t' sb r c1 c2⟩
end
section
variable {X : Cx} {pins : List (Addr × Obj)} {σ : L2.St} {H : Hp} {s : Shared}
/-- what a set has got by one more -/
def Grown (L : List (Addr × List Int)) (x : Addr) (k : List Int) (L' : List (Addr × List Int)) : Prop := (k ∈ L.map (·.2) → L' = L) ∧ (k ∉ L.map (·.2) → L'.Perm ((x, k) :: L))
theorem addT_ok {E : Value → Shared → Prop} {D x : Addr} {L : List (Addr × List Int)} {k : List Int} {Q : Value → Shared → Prop} (I : Inv X pins σ H s) (hD : H D = some (SetTO X.prog X.w D L)) (hL : ∀ p ∈ L, SqT X.K H p.1 (p.2.map V.int)) (hx : SqT X.K H x (k.map V.int)) (hf : L.length + 1 < 64) (hu : X.A.units + 1 < cLine)
    (h : ∀ L' s', Grown L x k L' → Inv X pins σ (upd H D (SetTO X.prog X.w D L')) s' → Q .none s') : wpAny (model X.prog X.w) X.A (call (.builtin "set.add") [.ref D, .ref x]) Q E s := by
  obtain ⟨es, ep, t, R⟩ := SetT0.full (P := X.prog) (w := X.w) (show SetT0 X.prog X.w s.heap D L from (I.hok D _ hD).1) fun p hp => Inv.isT I (hL p hp)
  refine addT_raw R (Inv.isT I hx) hu hf fun h' tk L' es' ep' t' sb R' c1 c2 => ?_
  have he : ∃ u, h'.get? D = some u := by
    obtain ⟨o, ho, _⟩ := R'.ob
    exact ⟨o, ho⟩
  exact h L' _ ⟨c1, c2⟩ (I.write (e := D) (t' := tk) (by rw [hD]; trivial) (.inl rfl) (fun b u hb hu => (sb.2 b hb).trans hu) he (setTO_new R'.t0))
end
/-! ### one loop of a comprehension -/
/-- a turn: the store, the tests, what is done behind them -/
def turnOf (e : Expr) (d : Nat) (it acc : Value) (env : Env) (p : Pos) (tg : Expr) (ifs : List Expr) (act : Sem PUnit) : Sem PySem.Fin := do
  standAt p
  match ← pyNext it with
  | none => pure (.done .next)
  | some v =>
    letOwnedTupleGo tg it v
    assign tg env v
    let mut ok := true
    for c in ifs do
      if ok then ok ← isTrue c env (eval c env)
    if ok then
      act
    again (.compLoop e d it acc env)
abbrev TD := L2.St → Hp → (Hp → Prop) → Prop
/-- what is to be shown of the walk -/
def tWk (J : It) (σ : L2.St) (vs : List Nat) (g : TG) (tt : TT) (ta : TD) (Qd : Hp → Prop) (W : Nat → Nat → Hp → Prop) : Prop := ∀ i m H, W i m H →
  (J.stop i H ∧ Qd H) ∨ (J.go i H ∧ ∃ Nx : Hp → Prop, (∀ H', Nx H' → ∃ m', m' < m ∧ W (i + 1) m' H') ∧ ∀ x H', J.yld i H x H' → g x (wipe σ vs) H' fun σ2 H2 => wipe σ2 vs = wipe σ vs ∧ tt σ2 H2 fun b H3 => if b = true then ta σ2 H3 Nx else Nx H3)
theorem loopG {Y : Cx} {e : Expr} {d : Nat} {it : Addr} {acc : Value} {p : Pos} {tg : Expr} {ifs : List Expr} {act : Sem PUnit} {J : It} {fp : List Addr} {tn : Nat → Heap → Prop} {g : TG} {tt : TT} {ta : TD} {vs va : List Nat} {pins : List (Addr × Obj)} {σ : L2.St} {R : Result → Shared → Prop} {Qd : Hp → Prop} {W : Nat → Nat → Hp → Prop} {m0 : Nat} {H0 : Hp} {s0 : Shared}
    (hc : Y.calm = true) (hx : Y.xe = fun _ _ => False) (hq : Code.quiet (.compLoop e d (.ref it) acc Y.env) = true) (hden : (model Y.prog Y.w).den (.compLoop e d (.ref it) acc Y.env) = (compTurn e d (.ref it) acc Y.env).onRaise (fun x => do noteFrame x Y.env; theTreesLotGoes x)) (hun : Y.A.under (.compLoop e d (.ref it) acc Y.env) = Y.A)
    (heq : compTurn e d (.ref it) acc Y.env = turnOf e d (.ref it) acc Y.env p tg ifs act)
    (T : Turn Y.prog Y.w Y.K tg J fp it tn) (pg : PG Y tg g) (pt : PTs Y ifs tt)
    (ha : ∀ (p2 : List (Addr × Obj)) (s : Shared) (σ2 : L2.St) (H : Hp) (Nx : Hp → Prop), Inv Y (pins ++ p2) σ2 H s → ta σ2 H Nx → wpAny (model Y.prog Y.w) Y.A act (fun _ s' => ∃ H', Inv Y (pins ++ p2) (wipe σ2 va) H' s' ∧ Nx H') (fun _ _ => False) s)
    (hva : ∀ i ∈ va, i ∈ vs) (turn : tWk J σ vs g tt ta Qd W) (hR : ∀ s' H', Inv Y pins (wipe σ vs) H' s' → Qd H' → R (.ok .next) s') (hf : ∀ H', (∀ b ∈ fp, H' b = none) → ∀ b ∈ fp, FpOk Y pins H' b)
    (I0 : Inv Y pins (wipe σ vs) H0 s0) (st0 : tn 0 s0.heap) (n0 : ∀ b ∈ fp, H0 b = none) (w0 : W 0 m0 H0) : codeAny (model Y.prog Y.w) Y.A (.compLoop e d (.ref it) acc Y.env) R s0 := by
  refine codeAny_loop hq (fun n s' => ∃ i H', Inv Y pins (wipe σ vs) H' s' ∧ tn i s'.heap ∧ (∀ b ∈ fp, H' b = none) ∧ W i n H') (fun n s hI => ?_) m0 ⟨0, H0, I0, st0, n0, w0⟩
  obtain ⟨i, H, I, st, nf, w⟩ := hI
  rw [hden, hun]
  refine wpAny_noted ?_
  rw [heq]
  unfold turnOf
  refine wpAny_bind (wpAny_standAt (wpAny_bind ?_))
  rcases turn i n H w with ⟨stop, qq⟩ | ⟨go, Nx, hNx, step⟩
  · refine thnF (T.done Y rfl rfl rfl hc i pins s _ H (fun _ _ => False) I (hf H nf) st stop) fun r s6 hr => ?_
    obtain ⟨hr, I6⟩ := hr
    subst hr
    exact wpAny_pure (hR s6 H I6 qq)
  · refine thnF (T.item Y rfl rfl rfl hc i pins s _ H (fun _ _ => False) I (hf H nf) st go) fun r s6 hr => ?_
    obtain ⟨u, hr, h6⟩ := hr
    subst hr
    refine wpAny_bind (thnF h6 fun _ s7 h7 => ?_)
    obtain ⟨x, H7, I7, r7, y7, st7, n7⟩ := h7
    have J7 := I7.pinned (hf H7 n7) (T.obj _ _ st7)
    have gp := pg.run _ s7 _ H7 x u _ J7 r7 (step x H7 y7)
    rw [hx] at gp
    refine wpAny_bind (thnF gp fun _ s8 h8 => ?_)
    obtain ⟨σ8, H8, I8, hw8, q8⟩ := h8
    have gt := pt.run _ s8 σ8 H8 _ I8 q8
    rw [hx] at gt
    refine wpAny_bind (thnF gt fun b s9 h9 => ?_)
    obtain ⟨H9, I9, q9⟩ := h9
    have fin : ∀ {σ9 : L2.St} {s' : Shared} {H' : Hp}, Inv Y (pins ++ pinsAt fp s7.heap) σ9 H' s' → (wipe σ vs).length = σ9.length → (∀ (j : Nat) v, (wipe σ vs)[j]? = some (some v) → σ9[j]? = some (some v)) → Nx H' →
        ∃ m, m < n ∧ ∃ i H', Inv Y pins (wipe σ vs) H' s' ∧ tn i s'.heap ∧ (∀ b ∈ fp, H' b = none) ∧ W i m H' := by
      intro σ9 s' H' I' hl hk nx
      obtain ⟨m', hm, w'⟩ := hNx H' nx
      have at7 : ∀ b ∈ fp, ∀ o, s7.heap.get? b = some o → s'.heap.get? b = some o ∧ H' b = none := fun b hb o e0 =>
        have z := I'.pin (b, o) (List.mem_append_right _ (List.mem_append_right _ (mem_pinsAt hb e0)))
        ⟨z.1, z.2.1⟩
      refine ⟨m', hm, i + 1, H', I'.unpinned.weak hl hk, T.keep _ _ _ st7 fun b hb o e0 => (at7 b hb o e0).1, fun b hb => ?_, w'⟩
      obtain ⟨o, e0, _⟩ := T.obj _ _ st7 b hb
      exact (at7 b hb o e0).2
    have len8 : (wipe σ vs).length = σ8.length := by rw [← hw8, wipe_length]
    cases b with
    | false =>
      simp only [Bool.false_eq_true, if_false] at q9 ⊢
      exact wpAny_pure ⟨rfl, fin I9 len8 (fun j v e0 => by rw [← hw8] at e0; exact (wipe_some e0).1) q9⟩
    | true =>
      simp only [if_true] at q9 ⊢
      refine wpAny_bind (thnF (ha _ s9 σ8 H9 Nx I9 q9) fun _ s10 h10 => ?_)
      obtain ⟨H10, I10, nx⟩ := h10
      refine wpAny_pure ⟨rfl, fin I10 (len8.trans (wipe_length σ8 va).symm) (fun j v e0 => ?_) nx⟩
      rw [← hw8] at e0
      obtain ⟨e1, e2⟩ := wipe_some e0
      rw [wipe_out fun z => e2 (hva j z)]
      exact e1
end SrT

set_option maxHeartbeats 2000000
namespace SrT
open PySem PySem.Spec PyProof.Rows L2 PySem.W
section
variable {elt t0 i0 t1 i1 : Expr} {c0 c1 : List Expr} {sc : Scope} {pos : Pos}
abbrev sc2 (elt t0 i0 t1 i1 : Expr) (c0 c1 : List Expr) (sc : Scope) (pos : Pos) : Expr := .SetComp elt [⟨t0, i0, c0, 0⟩, ⟨t1, i1, c1, 0⟩] sc pos
def actOut (elt t0 i0 t1 i1 : Expr) (c0 c1 : List Expr) (sc : Scope) (pos : Pos) (acc : Value) (env : Env) : Sem PUnit := do
  let x ← eval i1 env
  standAt i1.pos
  let x ← foldedSetIterable i1 env x
  let _ ← runOwn (.compStart (sc2 elt t0 i0 t1 i1 c0 c1 sc pos) 1 (← holding [x] (pyIter x)) acc env) env
def actIn (elt : Expr) (acc : Value) (env : Env) : Sem PUnit := do
  let v ← eval elt env
  standAt elt.pos
  let _ ← call (.builtin "set.add") [acc, v]
theorem turn_out (it acc : Value) (env : Env) : compTurn (sc2 elt t0 i0 t1 i1 c0 c1 sc pos) 0 it acc env = turnOf (sc2 elt t0 i0 t1 i1 c0 c1 sc pos) 0 it acc env i0.pos t0 c0 (actOut elt t0 i0 t1 i1 c0 c1 sc pos acc env) := by
  have e : compTurn (sc2 elt t0 i0 t1 i1 c0 c1 sc pos) 0 it acc env = (do
      standAt i0.pos
      match ← pyNext it with
      | none => pure (.done .next)
      | some v =>
        letOwnedTupleGo t0 it v
        assign t0 env v
        let mut ok := true
        for c in c0 do
          if ok then ok ← isTrue c env (eval c env)
        if ok then
          let x ← eval i1 env
          standAt i1.pos
          let x ← foldedSetIterable i1 env x
          let _ ← runOwn (.compStart (sc2 elt t0 i0 t1 i1 c0 c1 sc pos) 1 (← holding [x] (pyIter x)) acc env) env
        again (.compLoop (sc2 elt t0 i0 t1 i1 c0 c1 sc pos) 0 it acc env)) := by rfl
  rw [e]
  unfold turnOf actOut
  refine bind_congr fun _ => bind_congr fun r => ?_
  cases r with
  | none => rfl
  | some v =>
    refine bind_congr fun _ => bind_congr fun _ => bind_congr fun ok => ?_
    cases ok <;> simp only [Bool.false_eq_true, if_false, if_true, bind_assoc, pure_bind]
theorem turn_in (it acc : Value) (env : Env) : compTurn (sc2 elt t0 i0 t1 i1 c0 c1 sc pos) 1 it acc env = turnOf (sc2 elt t0 i0 t1 i1 c0 c1 sc pos) 1 it acc env i1.pos t1 c1 (actIn elt acc env) := by rfl
theorem start_in {prog : Program} {w : World} {A : Around} {R : Result → Shared → Prop} {s : Shared} {it acc : Value} {env : Env} (h0 : codeAny (model prog w) A (.compLoop (sc2 elt t0 i0 t1 i1 c0 c1 sc pos) 1 it acc env) R s)
    (h : wpAny (model prog w) A (pyIter it) (fun it' s' => codeAny (model prog w) A (.compLoop (sc2 elt t0 i0 t1 i1 c0 c1 sc pos) 1 it' acc env) R s') (notedBy (model prog w) A env fun x s' => R (.error x) s') s) :
    codeAny (model prog w) A (.compStart (sc2 elt t0 i0 t1 i1 c0 c1 sc pos) 1 it acc env) R s := by
  refine codeAny_of_tree ?_
  show wpAny _ _ ((compStart (sc2 elt t0 i0 t1 i1 c0 c1 sc pos) 1 it acc env).onRaise (fun x => do noteFrame x env; standAt theWindowsPlace)) _ _ s
  refine wpAny_notedAt ?_
  unfold compStart
  show wpAny _ _ (ask >>= _) _ _ s
  refine wpAny_bind (wpAny_askSetting (wpAny_ite ?_))
  split
  · first
      | exact wpAny_bind (wpAny_pure (wpAny_pure (And.intro rfl h0)))
      | exact wpAny_pure (And.intro rfl h0)
  · first
      | exact wpAny_bind (wpAny_rule (wpAny_bind (wpAny_standAt (wpAny_bind (wpAny_mono h (fun it' s' h' => wpAny_pure (And.intro rfl h')) fun _ _ x => x)))))
      | (refine wpAny_bind (wpAny_rule ?_); show wpAny _ _ (standAt i1.pos >>= _) _ _ s; exact wpAny_bind (wpAny_standAt (wpAny_bind (wpAny_mono h (fun it' s' h' => wpAny_pure (And.intro rfl h')) fun _ _ x => x))))
end
section
variable {X : Cx}
/-- one more into the set at D -/
def tAdd (K : PySem.W.Frag) (P : Program) (w : World) (D : Addr) (te : TE) : TD := fun σ H Nx => te σ H fun y H4 => ∃ (x : Addr) (k : List Int) (L : List (Addr × List Int)), y = .ref x ∧ SqT K H4 x (k.map V.int) ∧ H4 D = some (SetTO P w D L) ∧ (∀ p ∈ L, SqT K H4 p.1 (p.2.map V.int)) ∧ L.length + 1 < 64 ∧ ∀ L', Grown L x k L' → Nx (upd H4 D (SetTO P w D L'))
/-- the second clause's own walk -/
def tInner (wi1 : TI) (g1 : TG) (tt1 : TT) (ta : TD) (vs1 : List Nat) : TD := fun σ2 H Nx => wi1 σ2 H fun J1 H4 => ∃ W1 : Nat → Nat → Hp → Prop, (∃ m, W1 0 m H4) ∧ tWk J1 σ2 vs1 g1 tt1 ta Nx W1
def tSc2 (K : PySem.W.Frag) (P : Program) (w : World) (wi : TI) (g : TG) (tt : TT) (wi1 : TI) (g1 : TG) (tt1 : TT) (te : TE) (vs vs1 : List Nat) : TE := fun σ H Q => wi σ H fun J H1 => ∀ D, H1 D = none → ∃ W : Nat → Nat → Hp → Prop, (∃ m, W 0 m (upd H1 D (SetTO P w D []))) ∧
  tWk J σ vs g tt (tInner wi1 g1 tt1 (tAdd K P w D te) vs1) (fun H' => Q (.ref D) H') W
theorem act_in {Y : Cx} {elt : Expr} {D : Addr} {te : TE} {pins : List (Addr × Obj)} {σ : L2.St} {H : Hp} {s : Shared} {Nx : Hp → Prop} (hu : Y.A.units + 1 < cLine) (hx : Y.xe = fun _ _ => False) (pe : PE Y elt te) (I : Inv Y pins σ H s) (h : tAdd Y.K Y.prog Y.w D te σ H Nx) :
    wpAny (model Y.prog Y.w) Y.A (actIn elt (.ref D) Y.env) (fun _ s' => ∃ H', Inv Y pins (wipe σ []) H' s' ∧ Nx H') (fun _ _ => False) s := by
  unfold actIn
  have z := pe.run pins s σ H _ I h
  rw [hx] at z
  refine wpAny_bind (thnF z fun u s1 h1 => ?_)
  obtain ⟨yv, H1, I1, r1, x, k, L, ey, hxT, hD, hL, hf, nx⟩ := h1
  subst ey
  cases r1
  refine wpAny_bind (wpAny_standAt (wpAny_bind (addT_ok I1 hD hL hxT hf hu fun L' s2 gr I2 => wpAny_pure ?_)))
  exact ⟨_, I2, nx L' gr⟩
theorem act_out {Y : Cx} {elt tg iter tg1 iter1 : Expr} {ifs ifs1 : List Expr} {sc : Scope} {pos : Pos} {D : Addr} {wi1 : TI} {g1 : TG} {tt1 : TT} {te : TE} {vs1 : List Nat} {pins : List (Addr × Obj)} {σ2 : L2.St} {H : Hp} {s : Shared} {Nx : Hp → Prop} (hc : Y.calm = true) (hu : Y.A.units + 1 < cLine) (hx : Y.xe = fun _ _ => False)
    (pi1 : PI Y tg1 iter1 wi1) (pg1 : PG Y tg1 g1) (pt1 : PTs Y ifs1 tt1) (pe : PE Y elt te) (hs1 : ∀ env x, foldedSetIterable iter1 env x = pure x) (I : Inv Y pins σ2 H s) (h : tInner wi1 g1 tt1 (tAdd Y.K Y.prog Y.w D te) vs1 σ2 H Nx) :
    wpAny (model Y.prog Y.w) Y.A (actOut elt tg iter tg1 iter1 ifs ifs1 sc pos (.ref D) Y.env) (fun _ s' => ∃ H', Inv Y pins (wipe σ2 vs1) H' s' ∧ Nx H') (fun _ _ => False) s := by
  unfold actOut
  have z := pi1.run pins s σ2 H _ I h
  rw [hx] at z
  refine wpAny_bind (thnF z fun xv s1 h1 => wpAny_bind (wpAny_standAt (wpAny_bind (wpAny_of_eq (hs1 Y.env xv) (wpAny_bind (wpAny_holding (thnF h1 fun itv s2 h2 => ?_)))))))
  obtain ⟨it1, fp1, tn1, J1, H2, e1, I2, T1, st2, f2, W1, ⟨m1, w1⟩, turn1⟩ := h2
  subst e1
  refine wpAny_bind (wpAny_runOwn ?_)
  rw [Around.mark_none]
  have I2' : Inv Y pins (wipe σ2 vs1) H2 s2 := I2.weak (wipe_length _ _) (fun j v e => (wipe_some e).1)
  have loop : ∀ (R : Result → Shared → Prop), (∀ s' H', Inv Y pins (wipe σ2 vs1) H' s' → Nx H' → R (.ok .next) s') → codeAny (model Y.prog Y.w) Y.A (.compLoop (sc2 elt tg iter tg1 iter1 ifs ifs1 sc pos) 1 (.ref it1) (.ref D) Y.env) R s2 := fun R hR =>
    loopG (va := []) (vs := vs1) (σ := σ2) (ta := tAdd Y.K Y.prog Y.w D te) (act := actIn elt (.ref D) Y.env) hc hx rfl rfl rfl (turn_in _ _ _) T1 pg1 pt1 (fun p2 s σ3 H Nx' I' h' => act_in hu hx pe I' h') (fun i hi => nomatch hi) turn1 hR (fun H' hn b hb => ⟨hn b hb, (f2 b hb).2⟩) I2' st2 (fun b hb => (f2 b hb).1) w1
  have lp := loop (fun r s' => match r with
    | .ok f => wpAny (model Y.prog Y.w) Y.A (pure PUnit.unit) (fun _ s' => ∃ H', Inv Y pins (wipe σ2 vs1) H' s' ∧ Nx H') (fun _ _ => False) s'
    | .error e => False) (fun s' H' I' n' => wpAny_pure ⟨H', I', n'⟩)
  refine codeAny_mono (start_in lp (T1.self Y.A 0 _ _ _ st2 lp)) fun r s' hr => ?_
  cases r with
  | ok f => exact hr
  | error e => exact hr.elim
end
end SrT

set_option maxHeartbeats 2000000
namespace SrT
open PySem PySem.Spec PyProof.Rows L2 PySem.W
section
variable {X : Cx}
theorem pe_sc2 {elt tg iter tg1 iter1 : Expr} {ifs ifs1 : List Expr} {scope : Scope} {own : List (Str × Nat)} {vs1 : List Nat} {pos : Pos} {wi wi1 : TI} {g g1 : TG} {tt tt1 : TT} {te : TE} (hu : X.A.units + 1 < cLine) (hc : X.calm = true) (hN : X.N.Nodup) (hi : PI X tg iter wi) (ok : BlkOk X.N X.env.scope scope own) (hv : ∀ i ∈ vs1, i ∈ own.map (·.2))
    (hg : ∀ (s : Shared) (H : Hp) (C : Addr) (cl : List (Str × Addr)) (fp : List Addr), PG (X.blk s H scope (compEnvC scope cl C X.env) fp) tg g) (ht : ∀ (s : Shared) (H : Hp) (C : Addr) (cl : List (Str × Addr)) (fp : List Addr), PTs (X.blk s H scope (compEnvC scope cl C X.env) fp) ifs tt)
    (hi1 : ∀ (s : Shared) (H : Hp) (C : Addr) (cl : List (Str × Addr)) (fp : List Addr), PI (X.blk s H scope (compEnvC scope cl C X.env) fp) tg1 iter1 wi1) (hg1 : ∀ (s : Shared) (H : Hp) (C : Addr) (cl : List (Str × Addr)) (fp : List Addr), PG (X.blk s H scope (compEnvC scope cl C X.env) fp) tg1 g1)
    (ht1 : ∀ (s : Shared) (H : Hp) (C : Addr) (cl : List (Str × Addr)) (fp : List Addr), PTs (X.blk s H scope (compEnvC scope cl C X.env) fp) ifs1 tt1) (he : ∀ (s : Shared) (H : Hp) (C : Addr) (cl : List (Str × Addr)) (fp : List Addr), PE (X.blk s H scope (compEnvC scope cl C X.env) fp) elt te)
    (hs : ∀ x, foldedSetIterable iter X.env x = pure x := by intro _; rfl) (hs1 : ∀ env x, foldedSetIterable iter1 env x = pure x := by intro _ _; rfl) :
    PE X (sc2 elt tg iter tg1 iter1 ifs ifs1 scope pos) (tSc2 X.K X.prog X.w wi g tt wi1 g1 tt1 te (own.map (·.2)) vs1) := by
  refine ⟨fun pins s σ H Q I h => ?_⟩
  show wpAny _ _ (comprehension (sc2 elt tg iter tg1 iter1 ifs ifs1 scope pos) scope X.env (firstIterPos _ pos) (newSet (.type "set")) _ (firstIter _ X.env) none) _ _ s
  have fr : ∀ y ∈ scope.names, y.2 = .free → ∃ c, X.env.cells.lookup y.1 = some c := by
    intro y hy e
    rcases ok.free y hy e with k | k
    · exact I.ok.has _ (.inl k)
    · exact I.ok.has _ (.inr k)
  refine wpAny_comprehension_free (use := none) rfl hs (closure_ok fr) ok.kind (fun y hy e => by rw [ok.uniq y hy, e]) (thn (hi.run pins s σ H _ I h) fun xv s1 hx => thn hx fun itv s2 h2 => ?_)
  obtain ⟨it, fp, tn, J, H2, e, I2, T, st2, f2, q⟩ := h2
  subst e
  refine PpSet.newSet_ok (newEnv_comp ?_)
  generalize hD : s2.heap.objs.size = D
  obtain ⟨W, ⟨m0, w0⟩, turn⟩ := q D (I2.hok.fresh (Nat.le_of_eq hD))
  generalize hob : ({ cls := .type "set", dict := none, data := .set #[] 0 (.fresh 0 0 (!X.w.params.followText "set-order")) } : Obj) = ob
  generalize hs3 : ({ s2 with heap := s2.heap.push ob } : Shared) = s3
  have hp3 : s3.heap = s2.heap.push ob := by rw [← hs3]
  have I3 : Inv X pins σ (upd H2 D (SetTO X.prog X.w D [])) s3 := by
    rw [← hs3]
    refine I2.laid (t' := s2.toks) (fun b o e => Heap.get?_push_of_some _ e) (Nat.le_of_eq hD) ?_
    rw [← hD]
    exact setTO_new (SetTR.t0 (setTR_fresh (P := X.prog) (w := X.w) (by rw [← hob]; exact Heap.get?_push_size _ rfl)))
  have lt : ∀ b ∈ fp, b < s2.heap.objs.size := by
    intro b hb
    obtain ⟨o, e, _⟩ := T.obj _ _ st2 b hb
    exact Heap.lt_size e
  have f3 : ∀ b ∈ fp, FpOk X pins (upd H2 D (SetTO X.prog X.w D [])) b ∧ b < s3.heap.objs.size := by
    intro b hb
    have hlt := lt b hb
    refine ⟨⟨?_, (f2 b hb).2⟩, by rw [hp3, Heap.size_push]; exact Nat.lt_succ_of_lt hlt⟩
    rw [upd_ne (by rw [← hD]; exact Nat.ne_of_lt hlt)]
    exact (f2 b hb).1
  have I4 := block_start I3 ok hN f3
  show codeAny _ _ (.compStart (sc2 elt tg iter tg1 iter1 ifs ifs1 scope pos) 0 (.ref it) (.ref D) (compEnvC scope (cellsFrom (s3.heap.objs.size + 1) scope.names (cloFrom X.env.cells scope.names [])) s3.heap.objs.size X.env)) (compPost (model X.prog X.w) X.A X.xe none _ (.ref D) s3.heap.objs.size) { s3 with heap := pushCells (s3.heap.push { cls := .type "dict", data := .dict #[] }) scope.names }
  generalize hcl : cellsFrom (s3.heap.objs.size + 1) scope.names (cloFrom X.env.cells scope.names []) = cl at I4 ⊢
  generalize hH3 : upd H2 D (SetTO X.prog X.w D []) = H3 at *
  have pg := hg s3 H3 s3.heap.objs.size cl fp
  have pt := ht s3 H3 s3.heap.objs.size cl fp
  have pe := he s3 H3 s3.heap.objs.size cl fp
  have pi1 := hi1 s3 H3 s3.heap.objs.size cl fp
  have pg1 := hg1 s3 H3 s3.heap.objs.size cl fp
  have pt1 := ht1 s3 H3 s3.heap.objs.size cl fp
  generalize hs4 : ({ s3 with heap := pushCells (s3.heap.push { cls := .type "dict", data := .dict #[] }) scope.names } : Shared) = s4 at I4 ⊢
  have st4 : tn 0 s4.heap := T.keep _ _ _ st2 fun b _ o e => by
    rw [← hs4]
    refine pushCells_keeps _ _ _ _ (Heap.get?_push_of_some _ ?_)
    rw [hp3]
    exact Heap.get?_push_of_some _ e
  have cL : (compEnvC scope cl s3.heap.objs.size X.env).locals = s3.heap.objs.size := rfl
  generalize hce : compEnvC scope cl s3.heap.objs.size X.env = ce at I4 pg pt pe pi1 pg1 pt1 cL ⊢
  have fps : ∀ H', (∀ b ∈ fp, H' b = none) → ∀ b ∈ fp, FpOk (X.blk s3 H3 scope ce fp) [] H' b := fun H' hn b hb =>
    ⟨hn b hb, (I4.ok.exf b hb).1, I4.ok.exfs b hb, .inl hb, fun x c e => (I4.ok.exf b hb).2 x c e, fun p hp => absurd (show p ∈ ([] : List (Addr × Obj)) ++ [] from hp) (by simp)⟩
  have loop := loopG (Y := X.blk s3 H3 scope ce fp) (e := sc2 elt tg iter tg1 iter1 ifs ifs1 scope pos) (d := 0) (it := it) (acc := .ref D) (va := vs1) (R := compPost (model X.prog X.w) X.A X.xe none (fun v s' => ∃ x H', Inv X pins σ H' s' ∧ RelV x v ∧ Q x H') (.ref D) s3.heap.objs.size)
    hc rfl rfl rfl rfl (turn_out _ _ _) T pg pt (fun p2 s' σ2 H' Nx I' h' => act_out (Y := X.blk s3 H3 scope ce fp) hc hu rfl pi1 pg1 pt1 pe hs1 I' h') hv turn (fun s' H' I' qq => ?_) fps I4 st4 (fun b hb => (f3 b hb).1.1) w0
  · exact PpSet.codeAny_compStart_set loop (T.self X.A 0 _ _ _ st4 loop)
  · have I7 : Inv X pins σ H' s' := I3.call' (ch := fp) I'.os I'.base I'.hok I'.bare fun b hb => ⟨(f3 b hb).1.2.2.2.1, (f3 b hb).1.2.1, (f3 b hb).1.2.2.2.2.1, (f3 b hb).1.2.2.2.2.2⟩
    have nC : H' s3.heap.objs.size = none := by
      have z : H' ce.locals = none := I'.free
      rw [cL] at z
      exact z
    obtain ⟨m, hn, _⟩ := I'.loc
    have hn : s'.heap.Ns ce.locals m := hn
    rw [cL] at hn
    obtain ⟨f0, f1, f2, f3, f4, f5⟩ := I3.fpOk (Nat.le_refl _) nC
    exact ⟨m, hn, fun h'' sb => ⟨.ref D, H', I7.turned (t' := s'.toks) (fun b o hb e => (sb.2 b hb).trans e) f0 f1 f3 f4 f5, rfl, qq⟩⟩
end
end SrT

set_option maxHeartbeats 2000000
namespace SrT
open PySem PySem.Spec PyProof.Rows L2 PySem.W
section
variable {P : Program} {w : World} {A : Around} {E : Value → Shared → Prop} {s : Shared}
/-- sorted(t), t a tuple of ints -/
theorem sorted_tupleI {t : Addr} {vs : List Value} {ns : List Int} {Q : Value → Shared → Prop} (ht : IsTup s.heap t vs.toArray) (hi : IntsAre vs ns) (hz : vs.length ≤ sizeLine)
    (hQ : ∀ (h1 h' : Heap) (out : List Value) (c : Nat), (∀ b o, s.heap.get? b = some o → h1.get? b = some o) → (∀ b o, h1.get? b = some o → h'.get? b = some o) → h'.get? h1.objs.size = some (seqObj "list" out.toArray c) → SrtO.Srtd SrtO.ltIv out → SrtO.Stb SrtO.ltIv out vs → Q (.ref h1.objs.size) { s with heap := h' }) :
    wpAny (model P w) A (call (.builtin "sorted") [.ref t]) Q E s := by
  obtain ⟨o, ho, hc, n, hd⟩ := id ht
  refine Calls.call_function_entry kind_sorted plain_sorted entry_sorted (args_sorted1 _) ?_
  unfold Builtin.«sorted»
  refine wpAny_bind (m := checkCount "sorted" 1 1 _) (wpAny_pure ?_)
  refine wpAny_bind (wpAny_collect_seq (A := A.in1) t (.inr rfl) ho hc hd (fun h1 kp => ?_) (by simpa using hz))
  rw [List.toList_toArray]
  refine wpAny_bind (wpAny_newList ?_ hz)
  have hoL : (h1.push (seqObj "list" vs.toArray 0)).get? h1.objs.size = some (seqObj "list" vs.toArray 0) := Heap.get?_push_size _ rfl
  refine wpAny_bind (wpAny_holding (wpAny_call_entry slot_list_sort ⟨_, hoL, rfl⟩ entry_list_sort (SrtO.list_sort_ord (s := { s with heap := h1.push (seqObj "list" vs.toArray 0) }) SrtO.swo_int hoL hz (fun h2 => SrtO.ints_sortable hi h2) fun out hs hb => ⟨_, rfl, ?_⟩) (args_list_sort _)))
  obtain ⟨c, hc2⟩ := sortedHeap_at (vs := vs) (out := out.toArray) hoL
  refine wpAny_pure ⟨_, rfl, hQ h1 _ out c kp (fun b u q => ?_) hc2 hs hb⟩
  have lt := Heap.lt_size q
  show (sortedHeap (h1.push (seqObj "list" vs.toArray 0)) h1.objs.size vs out.toArray).get? b = some u
  rw [sortedHeap_old (Nat.ne_of_lt lt) (by rw [size_push']; exact Nat.lt_succ_of_lt lt)]
  exact Heap.get?_push_of_some _ q
end
section
variable {X : Cx} {pins : List (Addr × Obj)} {σ : L2.St} {H : Hp} {s : Shared}
/-- sorted(t) of a tuple of ints -/
def rSortTI (K : PySem.W.Frag) : List V → Hp → VK → Prop := fun vs H Q => ∃ (a : Addr) (ns : List Int), vs = [V.ref a] ∧ SqT K H a (ns.map V.int) ∧ ∀ (ns' : List Int) (p : Addr), ns'.Perm ns → ns'.Pairwise (· ≤ ·) → H p = none → Q (.ref p) (upd H p (.lst (ns'.map V.int)))
theorem cr_sortTI : CallR X (.builtin "sorted") (rSortTI X.K) := by
  intro pins s σ H vs us Q I r h
  obtain ⟨a, ns, rfl, hs, q⟩ := h
  obtain ⟨its, rv, hl, hz⟩ := I.tuple hs
  rw [Vals.ref1 r]
  have hi := rv.ints
  refine sorted_tupleI hl hi (by rw [← rv.length]; exact hz) fun h1 h' out c kp kp2 hat hs' hb => ?_
  obtain ⟨k1, k2, k3⟩ := SrtO.ints_out hi hs' hb
  have I1 : Inv X pins σ H { s with heap := h1 } := I.kept (t' := s.toks) kp
  have hlen : ((out.map SrtO.iv).map V.int).length ≤ sizeLine := by
    rw [List.length_map, k2.length_eq]
    rw [List.length_map] at hz
    exact hz
  exact ⟨.ref _, upd H h1.objs.size (.lst ((out.map SrtO.iv).map V.int)), I1.laid (t' := s.toks) kp2 (Nat.le_refl _) ⟨hlen, out, c, vals_of_ints k1, hat⟩, rfl, q _ _ k2 k3 (I1.hok.fresh (Nat.le_refl _))⟩
end
end SrT

set_option maxHeartbeats 1000000
namespace SrT
open PySem PySem.Spec PyProof.Rows L2 PySem.W
section
variable {X : Cx}
/-- sum(a tuple of ints) -/
def rSumT (K : PySem.W.Frag) : List V → Hp → VK → Prop := fun vs H Q => ∃ (a : Addr) (ns : List Int), vs = [V.ref a] ∧ SqT K H a (ns.map V.int) ∧ Q (.int ns.sum) H
theorem cr_sumT (hc : X.calm = true) : CallR X (.builtin "sum") (rSumT X.K) := by
  intro pins s σ H vs us Q I r h
  obtain ⟨a, ns, rfl, hs, q⟩ := h
  obtain ⟨its, rv, ht, _⟩ := I.tuple hs
  rw [Vals.ref1 r]
  have hi := rv.ints
  obtain ⟨xs, hx⟩ := hi.allInts.items
  have hn : numsOf its.toArray.toList = ns := by
    rw [show its.toArray.toList = its from rfl, hi.numsOf]
  rw [hx] at ht hn
  rw [nums_intItems] at hn
  refine ktm_sumG (I.ok.hd hc) ht fun h' tk t' hk => ?_
  rw [preSum_eq, List.take_of_length_le (by simp), hn]
  exact ⟨.int ns.sum, H, I.kept hk, ⟨_, rfl⟩, q⟩
theorem vals_int_eq : ∀ {zs : List V} {ns : List Int} {us : List Value}, Vals zs us → Vals (ns.map V.int) us → zs = ns.map V.int
  | _, [], _, r, .nil => by cases r; rfl
  | _, n :: ns, _, r, .cons q t => by
    cases r with
    | cons r t' =>
      obtain ⟨tk, rfl⟩ := q
      rw [List.map_cons, vals_int_eq t' t]
      rename_i x _
      cases x with
      | int m =>
        obtain ⟨t2, e⟩ := r
        injection e with e1 e2
        rw [e1]
      | _ => first | (obtain ⟨t2, e⟩ := r; cases e) | cases r
/-- an own tuple of the heap is what is told of it -/
def KnT (K : PySem.W.Frag) (H : Hp) : Prop := ∀ t zs (ns : List Int), H t = some (.tup zs) → SqT K H t (ns.map V.int) → zs = ns.map V.int
theorem Inv.knT {pins : List (Addr × Obj)} {σ : L2.St} {H : Hp} {s : Shared} (I : Inv X pins σ H s) : KnT X.K H := by
  intro t zs ns h1 h2
  obtain ⟨us, r1, p1, _⟩ := I.tuple (show SqT X.K H t zs from .inl (.inl h1))
  obtain ⟨us2, r2, p2, _⟩ := I.tuple h2
  obtain ⟨o, ho, _, n, hd⟩ := p1
  obtain ⟨o2, ho2, _, n2, hd2⟩ := p2
  rw [ho] at ho2
  cases ho2
  rw [hd] at hd2
  injection hd2 with e1 e2
  have e3 : us = us2 := by simpa using e1
  subst e3
  exact vals_int_eq r1 r2
/-- what is known behind any expression -/
def tKn (K : PySem.W.Frag) (te : TE) : TE := fun σ H Q => te σ H fun v H1 => KnT K H1 → Q v H1
theorem pe_kn {e : Expr} {te : TE} (h : PE X e te) : PE X e (tKn X.K te) := by
  refine ⟨fun pins s σ H Q I q => thn (h.run pins s σ H _ I q) fun v s1 ⟨x, H1, I1, r1, q1⟩ => ⟨x, H1, I1, r1, q1 (Inv.knT I1)⟩⟩
/-- a list of own tuples of ints -/
def TupH (H : Hp) (x : V) (ns : List Int) : Prop := ∃ t, x = .ref t ∧ H t = some (.tup (ns.map V.int))
def OwnT (H : Hp) (x : V) : Prop := ∃ t zs, x = .ref t ∧ H t = some (.tup zs)
theorem TupH.tup {K : PySem.W.Frag} {H : Hp} {x : V} {ns : List Int} (h : TupH H x ns) : TupI K H x ns := let ⟨t, e, h⟩ := h; ⟨t, e, .inl (.inl h)⟩
theorem TupH.own {H : Hp} {x : V} {ns : List Int} (h : TupH H x ns) : OwnT H x := let ⟨t, e, h⟩ := h; ⟨t, _, e, h⟩
theorem tupH_of {K : PySem.W.Frag} {H : Hp} (kn : KnT K H) {x : V} {ns : List Int} (h : OwnT H x) (h2 : TupI K H x ns) : TupH H x ns := by
  obtain ⟨t, zs, rfl, h1⟩ := h
  obtain ⟨t2, e, h3⟩ := h2
  cases e
  exact ⟨t, rfl, by rw [← kn t zs ns h1 h3]; exact h1⟩
theorem tupsH_of {K : PySem.W.Frag} {H : Hp} (kn : KnT K H) : ∀ {xs : List V} {fss : List (List Int)}, (∀ x ∈ xs, OwnT H x) → Paired (TupI K H) xs fss → Paired (TupH H) xs fss
  | _, _, _, .nil => .nil
  | _, _, h, .cons r t => .cons (tupH_of kn (h _ List.mem_cons_self) r) (tupsH_of kn (fun x hx => h x (List.mem_cons_of_mem _ hx)) t)
end
end SrT

namespace Lf
open PySem PySem.Spec PyProof.Rows L2 GxR GxA SrT
/-! ### a def whose code object is told -/
structure FunC (K : PySem.W.Frag) (x : Str) (st : Stmt) (f : Addr) (fd : FuncData) (c : Addr) : Prop where
  ex : ∃ (oc : Value) (od : Option Addr) (kV doc pm : Value) (an : Option Addr) (ct : Value) (osl : Array (Option Value)),
    fd = PySem.W.fnOf x x (defArgs st) (defBody st) (defScope st) .none kV doc pm an (.ref c) ct ∧ K.lookup f = some ⟨oc, od, .func fd, osl⟩ ∧ PySem.W.codeIn K (.ref c) x = true
  kp : PySem.W.keepIn K (.ref f) = true
/-- a def of the top: where it stands, how it is called -/
structure Def (K : PySem.W.Frag) (mg : Str → Option Value) (x : Str) (st : Stmt) (ps : List Str) (f : Addr) (fd : FuncData) (c : Addr) : Prop where
  F : FunC K x st f fd c
  b : Binds K fd ps []
  g : mg x = some (.ref f)
section
variable {P : Program} {w : World} {K : PySem.W.Frag} {mg : Str → Option Value} {base : Heap}
theorem Def.ok {x : Str} {st : Stmt} {f c : Addr} {fd : FuncData} {N ps : List Str} {k : Nat} {sp : Sp} (D : Def K mg x st ps f fd c) (S : FnScope N ps (defScope st)) (len : ∀ vs H Q E, sp vs H Q E → vs.length = ps.length)
    (hbody : ∀ (A : Around) (outer : List Env) (s : Shared) (H : Hp) (vs : List V) (Q : VK) (E : XK), Room k (A.deeper (envOfC x (defScope st) s.heap.objs.size f (.ref c))) → sp vs H Q E →
      ∃ t, PSs (cxOf CX0 P w K mg base N x (defScope st) f (.ref c) A outer s H E).nox (defBody st) t ∧ t { nx := fun _ H' => Q .non H', rt := Q } (start N vs) H) : FnOk P w K mg base CX0 (k + 1) f fd ps sp := by
  obtain ⟨oc, od, kV, doc, pm, an, ct, osl, rfl, lk, hcd⟩ := D.F.ex
  refine fn_of lk hcd S len fun A outer s H vs Q E hr hsp => ?_
  obtain ⟨t, h, q⟩ := hbody A outer s H vs Q E hr hsp
  exact ⟨t, h.nox, q⟩
end
/-- a call of such a def -/
theorem pcl {X : Cx} {x : Str} {st : Stmt} {ps : List Str} {f c : Addr} {fd : FuncData} {k : Nat} {sp : Sp} {e : Expr} {es : List Expr} {t : TA} {p pos : Pos} (D : Def X.K X.mg x st ps f fd c) (G : FnOk X.prog X.w X.K X.mg X.base CX0 k f fd ps sp) (hr : Room k X.A) (ha : PA X (e :: es) t)
    (hg : Gl X x := by rfl) (hdb : (x == ("__debug__" : Str)) = false := by decide) (he : starEach (e :: es) X.env = (false, eval e X.env) :: starEach es X.env := by rfl) (hpl : (backTo pos (starEach es X.env)).any (·.1) = false := by rfl) :
    PE X (.Call (.Name x p) (e :: es) [] pos) (tCall sp [] E0 t) := pe_call G hr hg D.g D.F.kp D.b .nil pass0 ha hdb he hpl
/-! ### the tables of the generator expressions and of the lambdas, and what is kept -/
structure Tbs where
  gen : List Addr
  lam : List (Addr × Str)
  apart : ∀ p ∈ lam, p.1 ∉ gen
  one : ∀ p ∈ lam, ∀ q ∈ lam, p.1 = q.1 → p.2 = q.2
instance : Membership Addr Tbs := ⟨fun Ps P => P ∈ Ps.gen⟩
structure Tb (Ps : Tbs) (H : Hp) : Prop where
  gen : ∀ P, P ∈ Ps → TabG H P
  lam : LamX.Tabs Ps.lam H
structure Ext (Ps : Tbs) (H H' : Hp) : Prop where
  tb : Tb Ps H'
  old : ∀ b o, H b = some o → (∀ q, o ≠ .tbl q) → H' b = some o
  there : ∀ b o, H b = some o → ∃ o', H' b = some o'
section
variable {Ps : Tbs} {H H1 H2 H' : Hp} {K : PySem.W.Frag}
theorem Ext.refl (h : Tb Ps H) : Ext Ps H H := ⟨h, fun _ _ e _ => e, fun _ o e => ⟨o, e⟩⟩
theorem Ext.trans (a : Ext Ps H H1) (b : Ext Ps H1 H2) : Ext Ps H H2 := ⟨b.tb, fun c o e n => b.old c o (a.old c o e n) n, fun c o e => let ⟨o', e'⟩ := a.there c o e; b.there c o' e'⟩
theorem Ext.free (e : Ext Ps H H') {l : Addr} (h : H' l = none) : H l = none := by
  cases q : H l with
  | none => rfl
  | some o =>
    obtain ⟨o', z⟩ := e.there l o q
    rw [z] at h
    cases h
/-- a lambda's table stays one where its own cell and the code objects do -/
theorem tabS_keep {P : Addr} {q : Str} (t : LamX.TabS H P q) (h1 : ∀ ps, H P = some (.tbl ps) → H' P = some (.tbl ps)) (h2 : ∀ c, H c = some (LamX.CodeO c q) → H' c = some (LamX.CodeO c q)) : LamX.TabS H' P q := by
  obtain ⟨ps, a1, a2, a3⟩ := t
  refine ⟨ps, h1 ps a1, a2, fun p' cv hc => ?_⟩
  obtain ⟨c, e1, e2⟩ := a3 p' cv hc
  exact ⟨c, e1, h2 c e2⟩
theorem Ext.of_tabbed {P : Addr} (h : Tb Ps H) (hP : P ∈ Ps) (z : Tabbed P H H') : Ext Ps H H' := by
  obtain ⟨ps0, e0, _⟩ := h.gen P hP
  have nb : ∀ b o, H b = some o → (∀ q, o ≠ .tbl q) → b ≠ P := fun b o e n q => by
    rw [q, e0] at e
    cases e
    exact n _ rfl
  refine ⟨⟨fun Q hQ => ?_, fun p hp => tabS_keep (h.lam p hp) (fun ps e => ?_) fun c e => ?_⟩, fun b o e n => ?_, fun b o e => ?_⟩
  · by_cases e : Q = P
    · rw [e]
      exact z.1
    · obtain ⟨ps, h1, h2⟩ := h.gen Q hQ
      exact ⟨ps, by rw [z.2 Q e]; exact h1, h2⟩
  · rw [z.2 p.1 fun q => Ps.apart p hp (q ▸ hP)]
    exact e
  · rw [z.2 c (nb c _ e fun q y => by cases y)]
    exact e
  · rw [z.2 b (nb b o e n)]
    exact e
  · by_cases eb : b = P
    · obtain ⟨ps, h1, _⟩ := z.1
      rw [eb]
      exact ⟨_, h1⟩
    · exact ⟨o, by rw [z.2 b eb]; exact e⟩
theorem Tb.new {p : Addr} {o : HO} (h : Tb Ps H) (n : H p = none) : Tb Ps (upd H p o) := by
  refine ⟨fun Q hQ => ?_, fun q hq => tabS_keep (h.lam q hq) (fun ps e => ?_) fun c e => ?_⟩
  · obtain ⟨ps, h1, h2⟩ := h.gen Q hQ
    exact ⟨ps, by rw [upd_ne (ne_of_none h1 n)]; exact h1, h2⟩
  · rw [upd_ne (ne_of_none e n)]
    exact e
  · rw [upd_ne (ne_of_none e n)]
    exact e
/-- a heap of that many objects -/
theorem heap_of_size : ∀ n : Nat, ∃ h : Heap, h.objs.size = n
  | 0 => ⟨⟨#[], {}⟩, rfl⟩
  | n + 1 => by
    obtain ⟨h, e⟩ := heap_of_size n
    exact ⟨h.push { cls := .none, data := .fields #[] }, by rw [Heap.size_push, e]⟩
/-- what is true only of sets is no code object -/
theorem ext_ne_code {p : Addr} {q : Str} {f : Heap → Prop} (hf : ∀ h oc vs, f h → h.get? p = some oc → oc.data = .fields vs → False) : HO.ext f ≠ LamX.CodeO p q := fun z => by
  unfold LamX.CodeO at z
  obtain ⟨h, e⟩ := heap_of_size p
  have hz := HO.ext.inj z
  have g : (h.push { cls := .none, data := .fields #[.none, .str q 0] }).get? p = some { cls := .none, data := .fields #[.none, .str q 0] } := by
    rw [← e]
    exact Heap.get?_push_size _ rfl
  have hh : f (h.push { cls := .none, data := .fields #[.none, .str q 0] }) := by
    rw [hz]
    exact ⟨_, _, _, g, rfl, rfl⟩
  exact hf _ _ _ hh g rfl
/-- an object that is neither a table nor a code object is written -/
theorem Tb.put {p : Addr} {o o' : HO} (h : Tb Ps H) (hp : H p = some o) (ho : ∀ q, o ≠ .tbl q) (hx : ∀ q, o ≠ LamX.CodeO p q) : Tb Ps (upd H p o') := by
  have n1 : ∀ Q ps, H Q = some (.tbl ps) → Q ≠ p := fun Q ps e z => by
    rw [z, hp] at e
    cases e
    exact ho _ rfl
  refine ⟨fun Q hQ => ?_, fun q hq => tabS_keep (h.lam q hq) (fun ps e => ?_) fun c e => ?_⟩
  · obtain ⟨ps, h1, h2⟩ := h.gen Q hQ
    exact ⟨ps, by rw [upd_ne (n1 Q ps h1)]; exact h1, h2⟩
  · rw [upd_ne (n1 _ ps e)]
    exact e
  · have ne : c ≠ p := fun z => by
      rw [z] at e
      exact hx _ (Option.some.inj (hp.symm.trans e))
    rw [upd_ne ne]
    exact e
theorem Ext.new {p : Addr} {o : HO} (h : Tb Ps H) (n : H p = none) : Ext Ps H (upd H p o) := by
  refine ⟨h.new n, fun b u e _ => ?_, fun b u e => ⟨u, ?_⟩⟩
  · rw [upd_ne (ne_of_none e n)]
    exact e
  · rw [upd_ne (ne_of_none e n)]
    exact e
theorem Ext.sqL (e : Ext Ps H H') {a : Addr} {xs : List V} (h : SqL K H a xs) : SqL K H' a xs := by
  rcases h with (h | ⟨o, h⟩) | h
  · exact .inl (.inl (e.old _ _ h (fun q z => by cases z)))
  · exact .inl (.inr ⟨o, e.old _ _ h (fun q z => by cases z)⟩)
  · exact .inr h
theorem Ext.sqT (e : Ext Ps H H') {a : Addr} {xs : List V} (h : SqT K H a xs) : SqT K H' a xs := by
  rcases h with (h | ⟨o, h⟩) | h
  · exact .inl (.inl (e.old _ _ h (fun q z => by cases z)))
  · exact .inl (.inr ⟨o, e.old _ _ h (fun q z => by cases z)⟩)
  · exact .inr h
theorem Ext.lst (e : Ext Ps H H') {a : Addr} {xs : List V} (h : H a = some (.lst xs)) : H' a = some (.lst xs) := e.old _ _ h (fun q z => by cases z)
theorem Ext.tupI (e : Ext Ps H H') {x : V} {ns : List Int} (h : TupI K H x ns) : TupI K H' x ns := let ⟨t, e1, e2⟩ := h; ⟨t, e1, e.sqT e2⟩
theorem Ext.tups (e : Ext Ps H H') {xs : List V} {fss : List (List Int)} (h : Paired (TupI K H) xs fss) : Paired (TupI K H') xs fss := L2.Paired.mapP h fun _ _ z => e.tupI z
/-- an object that is ours is written -/
theorem Ext.write {p : Addr} {o o' : HO} (e : Ext Ps H H') (n : H p = none) (hp : H' p = some o) (ho : ∀ q, o ≠ .tbl q) (hx : ∀ q, o ≠ LamX.CodeO p q := by intro q z; unfold LamX.CodeO at z; cases z) : Ext Ps H (upd H' p o') := by
  refine ⟨e.tb.put hp ho hx, fun b u q nt => ?_, fun b u q => ?_⟩
  · rw [upd_ne (ne_of_none q n)]
    exact e.old _ _ q nt
  · rw [upd_ne (ne_of_none q n)]
    exact e.there _ _ q
end
theorem paired_get {α β : Type} {F : α → β → Prop} : ∀ {xs : List α} {fs : List β} {i : Nat} {x : α}, Paired F xs fs → xs[i]? = some x → ∃ f, fs[i]? = some f ∧ F x f
  | _, _, _, _, .nil, e => by simp at e
  | _, _, 0, x, .cons r _, e => by
    have e' := Option.some.inj e
    subst e'
    exact ⟨_, rfl, r⟩
  | _, _, i + 1, x, .cons _ t, e => by
    obtain ⟨f, h1, h2⟩ := paired_get (i := i) (x := x) t (by simpa using e)
    exact ⟨f, by simpa using h1, h2⟩
theorem paired_get' {α β : Type} {F : α → β → Prop} : ∀ {xs : List α} {fs : List β} {i : Nat} {f : β}, Paired F xs fs → fs[i]? = some f → ∃ x, xs[i]? = some x ∧ F x f
  | _, _, _, _, .nil, e => by simp at e
  | _, _, 0, x, .cons r _, e => by
    have e' := Option.some.inj e
    subst e'
    exact ⟨_, rfl, r⟩
  | _, _, i + 1, x, .cons _ t, e => by
    obtain ⟨f, h1, h2⟩ := paired_get' (i := i) (f := x) t (by simpa using e)
    exact ⟨f, by simpa using h1, h2⟩
/-! ### gW for the three kinds of walks -/
section
variable {K : PySem.W.Frag} {all : Bool} {σc : L2.St} {te : TE} {Q : VK}
/-- over a sequence of n things that stands still; Pv: what is kept, by the turn -/
theorem gW_seq {J : It} {n : Nat} {H0 : Hp} (Pv : Nat → Hp → Prop) (h0 : Pv 0 H0) (hstop : ∀ H, Pv n H → J.stop n H ∧ Q (.bl all) H)
    (hgo : ∀ i H, i < n → Pv i H → J.go i H ∧ ∀ x H4, J.yld i H x H4 → te (some x :: σc) H4 fun v H5 => ∃ b : Bool, v = .bl b ∧ (b = all → Pv (i + 1) H5) ∧ (b ≠ all → Q (.bl b) H5)) :
    ∃ W : Nat → Nat → Hp → Prop, (∃ m, W 0 m H0) ∧ gW all J σc te Q W := by
  refine ⟨fun i m H => i + m = n ∧ Pv i H, ⟨n, by omega, h0⟩, ?_⟩
  rintro i m H ⟨e, p⟩
  by_cases hi : i < n
  · obtain ⟨g1, g2⟩ := hgo i H hi p
    refine .inr ⟨m - 1, by omega, g1, fun x H4 hy => ?_⟩
    have q := g2 x H4 hy
    have en : i + 1 + (m - 1) = n := by omega
    have ee : (fun (v : V) (H5 : Hp) => ∃ b : Bool, v = .bl b ∧ (b = all → (i + 1 + (m - 1) = n ∧ Pv (i + 1) H5)) ∧ (b ≠ all → Q (.bl b) H5)) = (fun (v : V) (H5 : Hp) => ∃ b : Bool, v = .bl b ∧ (b = all → Pv (i + 1) H5) ∧ (b ≠ all → Q (.bl b) H5)) := by
      funext v H5
      simp only [en, true_and]
    show te (some x :: σc) H4 (fun (v : V) (H5 : Hp) => ∃ b : Bool, v = .bl b ∧ (b = all → (i + 1 + (m - 1) = n ∧ Pv (i + 1) H5)) ∧ (b ≠ all → Q (.bl b) H5))
    rw [ee]
    exact q
  · have ei : i = n := by omega
    subst ei
    exact .inl (hstop H p)
theorem gW_tup {a : Addr} {xs : List V} {H0 : Hp} (Pv : Nat → Hp → Prop) (h0 : Pv 0 H0) (hl : ∀ i H, Pv i H → SqT K H a xs) (hstop : ∀ H, Pv xs.length H → Q (.bl all) H)
    (hgo : ∀ i H x, xs[i]? = some x → Pv i H → te (some x :: σc) H fun v H5 => ∃ b : Bool, v = .bl b ∧ (b = all → Pv (i + 1) H5) ∧ (b ≠ all → Q (.bl b) H5)) :
    ∃ W : Nat → Nat → Hp → Prop, (∃ m, W 0 m H0) ∧ gW all (Itt K a) σc te Q W := by
  refine gW_seq (n := xs.length) Pv h0 (fun H p => ⟨⟨xs, hl _ H p, Nat.le_refl _⟩, hstop H p⟩) fun i H hi p => ⟨⟨xs, xs[i], hl i H p, List.getElem?_eq_getElem hi⟩, fun x H4 hy => ?_⟩
  obtain ⟨rfl, hy⟩ := hy
  exact hgo i H4 x (hy xs (hl i H4 p)) p
theorem gW_lst {a : Addr} {xs : List V} {H0 : Hp} (Pv : Nat → Hp → Prop) (h0 : Pv 0 H0) (hl : ∀ i H, Pv i H → SqL K H a xs) (hstop : ∀ H, Pv xs.length H → Q (.bl all) H)
    (hgo : ∀ i H x, xs[i]? = some x → Pv i H → te (some x :: σc) H fun v H5 => ∃ b : Bool, v = .bl b ∧ (b = all → Pv (i + 1) H5) ∧ (b ≠ all → Q (.bl b) H5)) :
    ∃ W : Nat → Nat → Hp → Prop, (∃ m, W 0 m H0) ∧ gW all (Itl K a) σc te Q W := by
  refine gW_seq (n := xs.length) Pv h0 (fun H p => ⟨⟨xs, hl _ H p, Nat.le_refl _⟩, hstop H p⟩) fun i H hi p => ⟨⟨xs, xs[i], hl i H p, List.getElem?_eq_getElem hi⟩, fun x H4 hy => ?_⟩
  obtain ⟨rfl, hy⟩ := hy
  exact hgo i H4 x (hy xs (hl i H4 p)) p
theorem gW_rng {lo : Int} {n : Nat} {H0 : Hp} (Pv : Nat → Hp → Prop) (h0 : Pv 0 H0) (hstop : ∀ H, Pv n H → Q (.bl all) H)
    (hgo : ∀ (i : Nat) H, i < n → Pv i H → te (some (.int (lo + i)) :: σc) H fun v H5 => ∃ b : Bool, v = .bl b ∧ (b = all → Pv (i + 1) H5) ∧ (b ≠ all → Q (.bl b) H5)) :
    ∃ W : Nat → Nat → Hp → Prop, (∃ m, W 0 m H0) ∧ gW all (Itr lo n) σc te Q W := by
  refine gW_seq (n := n) Pv h0 (fun H p => ⟨Nat.le_refl n, hstop H p⟩) fun i H hi p => ⟨hi, fun x H4 hy => ?_⟩
  obtain ⟨rfl, rfl⟩ := hy
  exact hgo i H4 hi p
end
/-- the scope of a generator expression over the def's own -/
def genC (dsc sc : Scope) : Bool := sc.names.all fun y => match y.2 with
  | .cell => false
  | .free => (match dsc.names.lookup y.1 with | some .cell => true | _ => false)
  | _ => true
theorem genS {q : Str} {dsc sc : Scope} {n f : Addr} {cd : Value} {x : Str} (h1 : sc.kind = .function) (h2 : sc.isCoroutine = false) (h3 : genC dsc sc = true) (h4 : sc.names.lookup (".0" : Str) = some NameKind.local) (h5 : sc.names.lookup x = some .local) :
    GenS (envOfC q dsc n f cd) sc x := by
  refine ⟨h1, h2, fun y hy e => ?_, h4, h5, fun y hy e => ?_⟩
  · have z := List.all_eq_true.mp h3 y hy
    simp only [e] at z
    cases z
  · have z := List.all_eq_true.mp h3 y hy
    simp only [e] at z
    split at z
    · rename_i hc
      exact cell_has hc
    · cases z
end Lf

set_option maxHeartbeats 1000000
/-! for i, x in enumerate(t), t a tuple. -/
namespace EnT
open PySem PySem.Spec PyProof.Rows L2
theorem new_enum {v : Value} {o : Obj} {Hh : Heap → Prop} (B : Begins v o Hh) :
    Meets (Builtin.«enumerate.__new__» ⟨[.type "enumerate", v], []⟩) (fun _ R s => Hh s.heap ∧
      R (.ok (.ret (.ref (s.heap.push o).objs.size))) { s with heap := (s.heap.push o).push { cls := .type "enumerate", data := .fields #[.none, .bool false, .ref s.heap.objs.size, rawInt 0, .none, .none] } }) :=
  .of_wp fun prog w A R s h => by
    obtain ⟨hp, g, d, tk, os⟩ := s
    obtain ⟨h1, h⟩ := h
    have hs := sub_enumerate
    have it1 : ∀ {A' : Around} {E : Value → Shared → Prop} {Q : Value → Shared → Prop}, Q (.ref hp.objs.size) ⟨hp.push o, g, d, tk, os⟩ → wpAny (model prog w) A' (pyIter v) Q E ⟨hp, g, d, tk, os⟩ :=
      fun q => B.iter prog w _ _ ⟨hp, g, d, tk, os⟩ _ h1 q
    wp_walk using it1
    refine wpAny_stack_any fun st => wpAny_pure ?_
    split
    · rename_i cc _ _ _ _ _
      cases (cc == Value.type "enumerate")
      · wp_walk using it1
        exact ⟨_, rfl, h⟩
      · wp_walk using it1
        exact ⟨_, rfl, h⟩
    · wp_walk using it1
      exact ⟨_, rfl, h⟩
section
variable {prog : Program} {w : World} {A : Around} {E : Value → Shared → Prop} {s : Shared}
theorem call_enumT {t : Addr} {items : Array Value} {Q : Value → Shared → Prop} (ht : s.heap.IsTuple t items)
    (h : ∀ h', IsEnum h' (s.heap.objs.size + 1) s.heap.objs.size 0 .none → h'.IsTupleIter s.heap.objs.size t 0 → (∀ b o, s.heap.get? b = some o → h'.get? b = some o) → Q (.ref (s.heap.objs.size + 1)) { s with heap := h' }) :
    wpAny (model prog w) A (call (.type "enumerate") [.ref t]) Q E s := by
  refine callType_new F.called_enumerate (by decide) (F.typeCall_enumerate_1 _) (F.newCall_enumerate_1 _) (fun obj => F.args_object_init_2 obj _) F.entry_enumerate_new (new_enum (begins_tuple t items)) ⟨ht, ?_⟩
  have z1 : (s.heap.push { cls := .type "tuple_iterator", data := .fields #[.ref t, .int 0 0] }).objs.size = s.heap.objs.size + 1 := Heap.size_push ..
  show _ ∧ _
  rw [z1]
  have he : IsEnum ((s.heap.push { cls := .type "tuple_iterator", data := .fields #[.ref t, .int 0 0] }).push { cls := .type "enumerate", data := .fields #[.none, .bool false, .ref s.heap.objs.size, rawInt 0, .none, .none] }) (s.heap.objs.size + 1) s.heap.objs.size 0 .none := by
    have q := Heap.get?_push_size (s.heap.push { cls := .type "tuple_iterator", data := .fields #[.ref t, .int 0 0] }) (o := { cls := .type "enumerate", data := .fields #[.none, .bool false, .ref s.heap.objs.size, rawInt 0, .none, .none] }) rfl
    rw [z1] at q
    exact q
  exact ⟨⟨_, he, rfl⟩, h _ he ⟨_, Heap.get?_push_of_some _ (Heap.get?_push_size _ rfl), rfl, rfl⟩ fun b o x => Heap.get?_push_of_some _ (Heap.get?_push_of_some _ x)⟩
end
/-- the tuple at a: the index and the item in a new pair -/
def ItT (K : PySem.W.Frag) (a : Addr) : It :=
  ⟨fun i H => ∃ (xs : List V) (x : V), SqT K H a xs ∧ xs[i]? = some x, fun i H v H' => ∃ T x, v = .ref T ∧ H T = none ∧ H' = upd H T (.tup [.int (i : Nat), x]) ∧ ∀ xs, SqT K H a xs → xs[i]? = some x, fun i H => ∃ xs : List V, SqT K H a xs ∧ xs.length = i⟩
theorem turn_enumT {P : Program} {w : World} {K : PySem.W.Frag} {elts : List Expr} {kk : Nat} {tpos : Pos} (a e it : Addr) (hae : a ≠ e) (hai : a ≠ it) :
    Turn P w K (.Tuple elts kk tpos) (ItT K a) [e, it] e (fun i h => (∃ old, IsEnum h e it ((i : Nat) : Int) old) ∧ h.IsTupleIter it a i ∧ e ≠ it) where
  mem := by simp
  obj := fun i h st b hb => by
    obtain ⟨⟨old, he⟩, ⟨o, ho, hc, hd⟩, _⟩ := st
    have e' : b = e ∨ b = it := by simpa using hb
    rcases e' with z | z
    · rw [z]
      exact ⟨_, he, fun v q => nomatch q⟩
    · rw [z]
      exact ⟨o, ho, fun v q => by rw [hd] at q; cases q⟩
  keep := fun i h h' st k => let ⟨⟨old, he⟩, hi, hne⟩ := st; ⟨⟨old, k e (by simp) _ he⟩, hi.at fun o q => k it (by simp) o q, hne⟩
  item := by
    intro X hP hw hK hc i pins s σ H E I hf st hg
    subst hP hw hK
    obtain ⟨⟨old, he⟩, hit, hne⟩ := st
    obtain ⟨xs, x, hq, hx⟩ := hg
    obtain ⟨its, rv, p, hz⟩ := I.tuple hq
    obtain ⟨u, hu, ru⟩ := rv.get hx
    have hel : e < s.heap.objs.size := Heap.lt_size he
    have hil : it < s.heap.objs.size := by
      obtain ⟨_, q, _⟩ := hit
      exact Heap.lt_size q
    have hT0 : s.heap.IsTuple a its.toArray := p
    have hlen : i < its.toArray.size := by
      have := (List.getElem?_eq_some_iff.mp hu).1
      simpa using this
    have DD := Draws.tuple (prog := X.prog) (w := X.w) (A := X.A.in1) (I.ok.hd hc) it a hai its.toArray
    refine wpAny_pyNext_enum_itemD DD he ⟨hit, hT0⟩ hlen hne (by simp [hne, Ne.symm hae]) fun x' h' tk hPx ho hit' hT hsz hk => ?_
    have ex : x' = u := by
      have h1 : its.toArray[i]? = some x' := hPx
      have h2 : its.toArray[i]? = some u := by simpa using hu
      rw [h1] at h2
      exact Option.some.inj h2
    subst ex
    refine ⟨_, rfl, wpAny_letOwnedTupleGo_enum (s := { s with heap := h', toks := tk + 1 }) ho fun h'' he' sb => ?_⟩
    have hT2 : h''.get? s.heap.objs.size = some { cls := .type "tuple", data := .seq #[.int i tk, x'] } := (sb.2 _ (Nat.ne_of_gt hel)).trans hT
    have new : ObjOk X.prog X.w (upd H s.heap.objs.size (.tup [.int (i : Nat), x])) h'' s.heap.objs.size (.tup [.int (i : Nat), x]) :=
      ⟨by show 2 ≤ sizeLine; decide, [.int i tk, x'], .cons ⟨_, rfl⟩ (.cons ru .nil), ⟨_, hT2, rfl, _, rfl⟩⟩
    have I1 : Inv X pins σ (upd H s.heap.objs.size (.tup [.int (i : Nat), x])) { s with heap := h'', toks := tk + 1 } :=
      I.turnedNew (ch := [e, it]) (fun b ob hb q => (sb.2 b (fun z => hb (by simp [z]))).trans (hk b ob (fun z => hb (by simp [z])) (fun z => hb (by simp [z])) q)) hf (Nat.le_refl _) new
    refine ⟨.ref s.heap.objs.size, _, I1, rfl, ⟨_, x, rfl, I.hok.fresh (Nat.le_refl _), rfl, fun ys hy => by rw [I.tuple_inj hy hq]; exact hx⟩, ⟨⟨x', ?_⟩, hit'.1.at fun o q => (sb.2 it (Ne.symm hne)).trans q, hne⟩, fun b hb => ?_⟩
    · have e1 : ((i + 1 : Nat) : Int) = (i : Int) + 1 := by omega
      rw [e1]
      exact he'
    · have hb' : b < s.heap.objs.size := by
        have e' : b = e ∨ b = it := by simpa using hb
        rcases e' with z | z
        · rw [z]
          exact hel
        · rw [z]
          exact hil
      rw [upd_ne (Nat.ne_of_lt hb')]
      exact (hf b hb).1
  done := by
    intro X hP hw hK hc i pins s σ H E I hf st hg
    subst hP hw hK
    obtain ⟨⟨old, he⟩, hit, hne⟩ := st
    obtain ⟨xs, hq, hx⟩ := hg
    obtain ⟨its, rv, p, hz⟩ := I.tuple hq
    obtain ⟨f0, f1, f2, f3, f4, f5⟩ := hf it (by simp)
    have hl := rv.length
    have hT0 : s.heap.IsTuple a its.toArray := p
    have DD := Draws.tuple (prog := X.prog) (w := X.w) (A := X.A.in1) (I.ok.hd hc) it a hai its.toArray
    have en : its.toArray.size = i := by
      rw [List.size_toArray]
      omega
    refine wpAny_pyNext_enum_endD DD he ⟨by rw [en]; exact hit, hT0⟩ fun h' eb => ⟨rfl, I.turned (t' := s.toks) (fun b o hb q => eb b o hb q) f0 f1 f3 f4 f5⟩
  self := fun A i s Q E st h => let ⟨⟨_, he⟩, _⟩ := st; wpAny_pyIter_enum he h
def iEnT (K : PySem.W.Frag) (ta : TA) : TI := fun σ H R => ta σ H fun vs H1 => ∃ a xs, vs = [.ref a] ∧ SqT K H1 a xs ∧ R (ItT K a) H1
theorem pi_enumT {X : Cx} {e : Expr} {ta : TA} {p pos tpos : Pos} {elts : List Expr} {kk : Nat} (hg : Gl X "enumerate") (hm : X.mg "enumerate" = none) (ha : PA X [e] ta) (hs : starEach [e] X.env = [(false, eval e X.env)] := by rfl) :
    PI X (.Tuple elts kk tpos) (.Call (.Name "enumerate" p) [e] [] pos) (iEnT X.K ta) := by
  refine ⟨fun pins s σ H R I h => ?_⟩
  refine Call_ (ld_blt I hg hm boot_enumerate (PyProof.Rows.callWith_type1 (thn (ha.run pos pins s σ H _ I h) fun us s1 ⟨vs, H1, I1, r1, q1⟩ => ?_) hs rfl))
  obtain ⟨a, xs, ex, hq, q⟩ := q1
  subst ex
  cases r1 with
  | cons r rr =>
    cases rr
    cases r
    obtain ⟨its, rv, p', hz⟩ := I1.tuple hq
    have hT0 : s1.heap.IsTuple a its.toArray := p'
    have hal : a < s1.heap.objs.size := by
      obtain ⟨o, ho, _⟩ := hT0
      exact Heap.lt_size ho
    refine call_enumT hT0 fun h' he hit hk => wpAny_pyIter_enum he ?_
    have I2 : Inv X pins σ H1 { s1 with heap := h' } := I1.kept (t' := s1.toks) hk
    refine ⟨s1.heap.objs.size + 1, [s1.heap.objs.size + 1, s1.heap.objs.size], _, _, H1, rfl, I2, turn_enumT a (s1.heap.objs.size + 1) s1.heap.objs.size (Nat.ne_of_lt (Nat.lt_succ_of_lt hal)) (Nat.ne_of_lt hal), ⟨⟨.none, he⟩, hit, Nat.succ_ne_self _⟩, fun b hb => ?_, q⟩
    have e' : b = s1.heap.objs.size + 1 ∨ b = s1.heap.objs.size := by simpa using hb
    have hle : s1.heap.objs.size ≤ b := by
      rcases e' with z | z
      · rw [z]
        exact Nat.le_add_right _ _
      · rw [z]
        exact Nat.le_refl _
    exact I1.fpOk hle (I1.hok.fresh hle)
end EnT

namespace Lf
open PySem PySem.Spec PyProof.Rows L2 GxR GxA SrT EnT
theorem for_enT {K : PySem.W.Frag} {a : Addr} {xs : List V} {g : TG} {tb : TS} {D : Ends} {σ : L2.St} {H : Hp} (Pv : Nat → L2.St → Hp → Prop) (h0 : Pv 0 σ H) (hl : ∀ i σ H, Pv i σ H → SqT K H a xs)
    (hs : ∀ i x σ H T, xs[i]? = some x → Pv i σ H → H T = none → g (.ref T) σ (upd H T (.tup [.int (i : Nat), x])) fun σ2 H2 => tb { D with nx := Pv (i + 1), ct := Pv (i + 1), bk := D.nx } σ2 H2) (hd : ∀ σ H, Pv xs.length σ H → D.nx σ H) :
    ∃ W : Nat → Nat → L2.St → Hp → Prop, (∃ m, W 0 m σ H) ∧ ∀ i m σ H, W i m σ H →
      ((ItT K a).stop i H ∧ D.nx σ H) ∨ ((ItT K a).go i H ∧ ∃ N : L2.St → Hp → Prop, (∀ σ' H', N σ' H' → ∃ m', m' < m ∧ W (i + 1) m' σ' H') ∧ ∀ x H', (ItT K a).yld i H x H' → g x σ H' fun σ2 H2 => tb { D with nx := N, ct := N, bk := D.nx } σ2 H2) := by
  refine ⟨fun i m σ H => m = xs.length - i ∧ i ≤ xs.length ∧ Pv i σ H, ⟨xs.length, by simp, Nat.zero_le _, h0⟩, ?_⟩
  rintro i m σ H ⟨rfl, hi, p⟩
  have q := hl i σ H p
  by_cases hlt : i < xs.length
  · refine .inr ⟨⟨xs, xs[i], q, List.getElem?_eq_getElem hlt⟩, Pv (i + 1), fun σ' H' p' => ⟨xs.length - (i + 1), by omega, rfl, hlt, p'⟩, fun x H' y => ?_⟩
    obtain ⟨T, z, rfl, hT, rfl, hz⟩ := y
    exact hs i z σ H T (hz xs q) p hT
  · have e : i = xs.length := by omega
    subst e
    exact .inl ⟨⟨xs, q, rfl⟩, hd σ H p⟩
end Lf

namespace Lf
open PySem
/-! ### the text -/
def topS (i : Nat) : Stmt := PySem.Challenge.pw_layfaces_k10_faces_laid_on_lots.main.body.getD i (.Pass ⟨0, 0, 0, 0⟩)
end Lf

set_option maxHeartbeats 1000000
namespace Lf
open PySem PySem.Spec PyProof.Rows L2 GxR GxA SrT
abbrev sWithin : Stmt := topS 16
abbrev sBelow : Stmt := topS 18
abbrev sRises : Stmt := topS 19
abbrev sRising : Stmt := topS 20
abbrev sHasAll : Stmt := topS 21
abbrev sInSome : Stmt := topS 22
theorem scWithin : FnScope ["thing", "least", "most"] ["thing", "least", "most"] (defScope sWithin) := ⟨rfl, rfl, rfl, by decide +kernel, rfl, by decide +kernel, by decide +kernel⟩
theorem scBelow : FnScope ["thing", "many"] ["thing", "many"] (defScope sBelow) := ⟨rfl, rfl, rfl, by decide +kernel, rfl, by decide +kernel, by decide +kernel⟩
theorem scRises : FnScope ["things"] ["things"] (defScope sRises) := ⟨rfl, rfl, rfl, by decide +kernel, rfl, by decide +kernel, by decide +kernel⟩
theorem scRising : FnScope ["thing", "many"] ["thing", "many"] (defScope sRising) := ⟨rfl, rfl, rfl, by decide +kernel, rfl, by decide +kernel, by decide +kernel⟩
theorem scHasAll : FnScope ["face", "points"] ["face", "points"] (defScope sHasAll) := ⟨rfl, rfl, rfl, by decide +kernel, rfl, by decide +kernel, by decide +kernel⟩
theorem scInSome : FnScope ["points", "faces"] ["points", "faces"] (defScope sInSome) := ⟨rfl, rfl, rfl, by decide +kernel, rfl, by decide +kernel, by decide +kernel⟩
section
variable {P : Program} {w : World} {K : PySem.W.Frag} {mg : Str → Option Value} {base : Heap} {Ps : Tbs}
/-! ### is_within -/
def spWithin : Sp := fun vs H Q _ => ∃ i lo hi : Int, vs = [.int i, .int lo, .int hi] ∧ lo ≤ i ∧ i ≤ hi ∧ Q (.bl true) H
theorem ok_within {f c : Addr} {fd : FuncData} {k : Nat} (D : Def K mg "is_within" sWithin ["thing", "least", "most"] f fd c) (mi : mg "isinstance" = none) (mn : mg "int" = none) (mb : mg "bool" = none) : FnOk P w K mg base CX0 (k + 1) f fd ["thing", "least", "most"] spWithin := by
  refine D.ok scWithin (fun vs H Q E h => ?_) (fun A outer s H vs Q E hr h => ?_)
  · obtain ⟨i, lo, hi, rfl, _⟩ := h
    rfl
  · obtain ⟨i, lo, hi, rfl, h1, h2, q⟩ := h
    refine ⟨_, pss_cons (ps_if (PW.pt (pw_or (pt_not (pt_val (pe_callB call_isi (by rfl) mi (by decide +kernel) (pa_cons (pv 0) (pa_cons (pe_bltn (v := .ty "int") (by rfl) mn (by decide +kernel) rfl) pa_nil)))))
        (pw_or1 (pt_val (pe_callB call_isi (by rfl) mi (by decide +kernel) (pa_cons (pv 0) (pa_cons (pe_bltn (v := .ty "bool") (by rfl) mb (by decide +kernel) rfl) pa_nil))))))) (pss_one (ps_ret pe_bl)) pss_nil)
      (pss_one (ps_ret (pe_chain op_le op_le (pv 1) (pv 0) (pv 2)))), ?_⟩
    refine ⟨.int i, rfl, .int i, .ty "int", .type "int", .type "int", true, rfl, .ty _, .base (.int i), kit_ty (by decide +kernel), true, rfl, iteF ?_⟩
    refine ⟨.int i, rfl, .int i, .ty "bool", .type "int", .type "bool", false, rfl, .ty _, .base (.int i), kit_ty (by decide +kernel), false, rfl, iteF ?_⟩
    refine ⟨.int lo, rfl, .int i, rfl, lo, i, rfl, rfl, _, rfl, ?_⟩
    rw [if_pos (decide_eq_true h1)]
    refine ⟨.int hi, rfl, i, hi, rfl, rfl, ?_⟩
    show Q (.bl (decide (i ≤ hi))) H
    rw [decide_eq_true h2]
    exact q
/-! ### all_below -/
def spBelow (K : PySem.W.Frag) (Ps : Tbs) : Sp := fun vs H Q _ => ∃ (a : Addr) (ns : List Int) (m : Int), vs = [.ref a, .int m] ∧ SqT K H a (ns.map V.int) ∧ (∀ i ∈ ns, 0 ≤ i ∧ i < m) ∧ Tb Ps H ∧ ∀ H', Ext Ps H H' → Q (.bl true) H'
theorem ty_tup {H : Hp} {a : Addr} {xs : List V} (h : SqT K H a xs) : TyX K H (.ref a) (.type "tuple") := by
  rcases h with (h | ⟨o, h⟩) | ⟨o, _, _, h, h2, _⟩
  · exact .base (.tup h)
  · exact .fTuple h
  · exact .kTuple h h2
theorem ok_below {f c fW cW PT : Addr} {fd fdW : FuncData} {k : Nat} (D : Def K mg "all_below" sBelow ["thing", "many"] f fd c) (DW : Def K mg "is_within" sWithin ["thing", "least", "most"] fW fdW cW) (TB : TabB base mg c PT) (hP : PT ∈ Ps)
    (mi : mg "isinstance" = none) (mn : mg "int" = none) (mb : mg "bool" = none) (mt : mg "tuple" = none) (ma : mg "all" = none) : FnOk P w K mg base CX0 (k + 3) f fd ["thing", "many"] (spBelow K Ps) := by
  have GW : FnOk P w K mg base CX0 (k + 1) fW fdW ["thing", "least", "most"] spWithin := ok_within DW mi mn mb
  refine D.ok (k := k + 2) scBelow (fun vs H Q E h => ?_) (fun A outer s H vs Q E hr h => ?_)
  · obtain ⟨a, ns, m, rfl, _⟩ := h
    rfl
  · obtain ⟨a, ns, m, rfl, hS, hb, ht, q⟩ := h
    refine ⟨_, pss_one (ps_ret (pe_and (pe_callB call_isi (by rfl) mi (by decide +kernel) (pa_cons (pv 0) (pa_cons (pe_bltn (v := .ty "tuple") (by rfl) mt (by decide +kernel) rfl) pa_nil)))
      (pe_one (pe_allG (k := k + 1) (caps := [1]) (xs := ["many"]) hr (by rfl) ma TB rfl (genS rfl rfl (by decide +kernel) rfl rfl) ⟨⟨rfl, .inl rfl, rfl⟩, trivial⟩ (by decide +kernel) (pi_tup (pv 0))
        (fun _ _ _ _ _ _ _ hr' => pcl DW GW hr' (pa_cons (pv 0) (pa_cons pe_int (pa_cons (pe_op op_sub (pv 1) pe_int) pa_nil)))) (fun _ => rfl))))), ?_⟩
    refine ⟨.ref a, rfl, .ref a, .ty "tuple", .type "tuple", .type "tuple", true, rfl, .ty _, ty_tup hS, kit_ty (by decide +kernel), true, rfl, iteT ?_⟩
    refine ⟨.ref a, rfl, a, rfl, ⟨_, hS⟩, ht.gen PT hP, fun H2 hT2 => ?_⟩
    have e2 := Ext.of_tabbed ht hP hT2
    refine gW_tup (xs := ns.map V.int) (fun _ H3 => H3 = H2) rfl (fun i H3 e => by rw [e]; exact e2.sqT hS) (fun H3 e => by rw [e]; exact q _ e2) fun i H3 x hx e => ?_
    subst e
    rw [List.getElem?_map] at hx
    obtain ⟨y, hy, rfl⟩ := Option.map_eq_some_iff.mp hx
    have hyb := hb y (List.mem_of_getElem? hy)
    exact ⟨.int y, rfl, .int m, rfl, m, 1, rfl, rfl, y, 0, m - 1, rfl, hyb.1, by omega, true, rfl, fun _ => rfl, fun z => absurd rfl z⟩
/-! ### rises -/
/-- the things of xs rise -/
def Rise (K : PySem.W.Frag) (H : Hp) (xs : List V) : Prop := (∃ ns : List Int, xs = ns.map V.int ∧ ns.Pairwise (· < ·)) ∨ ∃ fss, Paired (TupI K H) xs fss ∧ fss.Pairwise fun x y => lex x y = true
def spRises (K : PySem.W.Frag) (Ps : Tbs) : Sp := fun vs H Q _ => ∃ (a : Addr) (xs : List V), vs = [.ref a] ∧ SqT K H a xs ∧ Rise K H xs ∧ xs.length ≤ 1000 ∧ Tb Ps H ∧ ∀ H', Ext Ps H H' → Q (.bl true) H'
theorem ok_rises {f c PT : Addr} {fd : FuncData} {k : Nat} (D : Def K mg "rises" sRises ["things"] f fd c) (TB : TabB base mg c PT) (hP : PT ∈ Ps) (ma : mg "all" = none) (mr : mg "range" = none) (ml : mg "len" = none) :
    FnOk P w K mg base CX0 (k + 2) f fd ["things"] (spRises K Ps) := by
  refine D.ok (k := k + 1) scRises (fun vs H Q E h => ?_) (fun A outer s H vs Q E hr h => ?_)
  · obtain ⟨a, xs, rfl, _⟩ := h
    rfl
  · obtain ⟨a, xs, rfl, hS, hR, hl, ht, q⟩ := h
    refine ⟨_, pss_one (ps_ret (pe_allG (k := k) (caps := [0]) (xs := ["things"]) hr (by rfl) ma TB rfl (genS rfl rfl (by decide +kernel) rfl rfl) ⟨⟨rfl, .inl rfl, rfl⟩, trivial⟩ (by decide +kernel)
      (pi_range1 (by rfl) mr (pa_cons (pe_op op_sub (pe_callB call_len_seq (by rfl) ml PySem.boot_len (pa_cons (pv 0) pa_nil)) pe_int) pa_nil))
        (fun _ _ _ _ _ _ _ hr' => pe_cmpR (OpR.or op_lt (show OpR _ _ (rLtT K) from op_ltT hr'.units0)) (pe_ix (show IxR _ (rIxT K) from ix_tup) (pv 1) (pv 0) (fun _ _ => rfl)) (pe_ix (show IxR _ (rIxT K) from ix_tup) (pv 1) (pe_op op_add (pv 0) pe_int) (fun _ _ => rfl)) (nomark _)) (fun _ => rfl))), ?_⟩
    refine ⟨.ref a, rfl, a, xs, rfl, .inr hS, (xs.length : Int), 1, rfl, rfl, (xs.length : Int) - 1, rfl, by omega, by omega, ht.gen PT hP, fun H2 hT2 => ?_⟩
    have e2 := Ext.of_tabbed ht hP hT2
    refine gW_rng (fun _ H3 => H3 = H2) rfl (fun H3 e => by rw [e]; exact q _ e2) fun i H3 hi e => ?_
    subst e
    have h1 : i < xs.length := by omega
    have h2 : i + 1 < xs.length := by omega
    refine ⟨.ref a, rfl, .int (0 + i), rfl, a, xs, 0 + i, xs[i], rfl, rfl, e2.sqT hS, ?_, .ref a, rfl, .int (0 + i), rfl, 0 + i, 1, rfl, rfl, a, xs, 0 + i + 1, xs[i + 1], rfl, rfl, e2.sqT hS, ?_, ?_⟩
    · rw [Int.zero_add]
      exact atI_nat (List.getElem?_eq_getElem h1)
    · have : (0 + (i : Int) + 1) = ((i + 1 : Nat) : Int) := by omega
      rw [this]
      exact atI_nat (List.getElem?_eq_getElem h2)
    · rcases hR with ⟨ns, rfl, hp⟩ | ⟨fss, hp, hr2⟩
      · have g1 : i < ns.length := by simpa using h1
        have g2 : i + 1 < ns.length := by simpa using h2
        refine .inl ⟨ns[i], ns[i + 1], by simp, by simp, true, ?_, fun _ => rfl, fun z => absurd rfl z⟩
        exact congrArg V.bl (decide_eq_true (List.pairwise_iff_getElem.mp hp i (i + 1) g1 g2 (by omega)))
      · have hlen := Paired.length hp
        obtain ⟨f1, k1, ⟨t1, z1, s1⟩⟩ := paired_get hp (List.getElem?_eq_getElem h1)
        obtain ⟨f2, k2, ⟨t2, z2, s2⟩⟩ := paired_get hp (List.getElem?_eq_getElem h2)
        refine .inr ⟨t1, t2, f1, f2, z1, z2, e2.sqT s1, e2.sqT s2, true, ?_, fun _ => rfl, fun z => absurd rfl z⟩
        obtain ⟨g1, k1⟩ := List.getElem?_eq_some_iff.mp k1
        obtain ⟨g2, k2⟩ := List.getElem?_eq_some_iff.mp k2
        have := List.pairwise_iff_getElem.mp hr2 i (i + 1) g1 g2 (by omega)
        rw [k1, k2] at this
        exact congrArg V.bl this
end
end Lf

set_option maxHeartbeats 1000000
namespace Lf
open PySem PySem.Spec PyProof.Rows L2 GxR GxA SrT
section
variable {P : Program} {w : World} {K : PySem.W.Frag} {mg : Str → Option Value} {base : Heap} {Ps : Tbs}
/-! ### is_rising -/
def spRising (K : PySem.W.Frag) (Ps : Tbs) : Sp := fun vs H Q _ => ∃ (a : Addr) (ns : List Int) (m : Int), vs = [.ref a, .int m] ∧ SqT K H a (ns.map V.int) ∧ (∀ i ∈ ns, 0 ≤ i ∧ i < m) ∧ ns.Pairwise (· < ·) ∧ ns.length ≤ 1000 ∧ Tb Ps H ∧ ∀ H', Ext Ps H H' → Q (.bl true) H'
theorem ok_rising {f c fB cB fR cR : Addr} {fd fdB fdR : FuncData} {k : Nat} (D : Def K mg "is_rising" sRising ["thing", "many"] f fd c) (DB : Def K mg "all_below" sBelow ["thing", "many"] fB fdB cB) (DR : Def K mg "rises" sRises ["things"] fR fdR cR)
    (GB : FnOk P w K mg base CX0 (k + 3) fB fdB ["thing", "many"] (spBelow K Ps)) (GR : FnOk P w K mg base CX0 (k + 3) fR fdR ["things"] (spRises K Ps)) : FnOk P w K mg base CX0 (k + 4) f fd ["thing", "many"] (spRising K Ps) := by
  refine D.ok (k := k + 3) scRising (fun vs H Q E h => ?_) (fun A outer s H vs Q E hr h => ?_)
  · obtain ⟨a, ns, m, rfl, _⟩ := h
    rfl
  · obtain ⟨a, ns, m, rfl, hS, hb, hp, hl, ht, q⟩ := h
    refine ⟨_, pss_one (ps_ret (pe_and (pcl DB GB hr (pa_cons (pv 0) (pa_cons (pv 1) pa_nil))) (pe_one (pcl DR GR hr (pa_cons (pv 0) pa_nil))))), ?_⟩
    refine ⟨.ref a, rfl, .int m, rfl, a, ns, m, rfl, hS, hb, ht, fun H1 e1 => ⟨true, rfl, iteT ?_⟩⟩
    exact ⟨.ref a, rfl, a, _, rfl, e1.sqT hS, .inl ⟨ns, rfl, hp⟩, by rw [List.length_map]; exact hl, e1.tb, fun H2 e2 => q _ (e1.trans e2)⟩
/-! ### has_all -/
theorem inV_ints (x : Int) (ns : List Int) : inV (.int x) (ns.map V.int) = decide (x ∈ ns) := by
  unfold inV
  rw [List.any_map, Bool.eq_iff_iff, List.any_eq_true, decide_eq_true_eq]
  constructor
  · rintro ⟨y, hy, e⟩
    have : y = x := by simpa [eqV] using e
    exact this ▸ hy
  · intro h
    exact ⟨x, h, by simp [eqV]⟩
theorem flat_ints (ns : List Int) : (ns.map V.int).all flatV = true := by
  rw [List.all_map, List.all_eq_true]
  intro _ _
  rfl
/-- the face has all the points -/
def hasAll (face pts : List Int) : Bool := pts.all fun p => decide (p ∈ face)
def spHasAll (K : PySem.W.Frag) (Ps : Tbs) : Sp := fun vs H Q _ => ∃ (x y : V) (fc pts : List Int), vs = [x, y] ∧ TupI K H x fc ∧ TupI K H y pts ∧ Tb Ps H ∧ ∀ H', Ext Ps H H' → Q (.bl (hasAll fc pts)) H'
theorem hasAll_stop {fc pts : List Int} {i : Nat} {y : Int} (hy : pts[i]? = some y) (h : decide (y ∈ fc) = false) : hasAll fc pts = false := by
  unfold hasAll
  rw [List.all_eq_false]
  exact ⟨y, List.mem_of_getElem? hy, by rw [h]; simp⟩
theorem ok_hasAll {f c PT : Addr} {fd : FuncData} {k : Nat} (D : Def K mg "has_all" sHasAll ["face", "points"] f fd c) (TB : TabB base mg c PT) (hP : PT ∈ Ps) (ma : mg "all" = none) :
    FnOk P w K mg base CX0 (k + 2) f fd ["face", "points"] (spHasAll K Ps) := by
  refine D.ok (k := k + 1) scHasAll (fun vs H Q E h => ?_) (fun A outer s H vs Q E hr h => ?_)
  · obtain ⟨x, y, fc, pts, rfl, _⟩ := h
    rfl
  · obtain ⟨_, _, fc, pts, rfl, ⟨a, rfl, hA⟩, ⟨b, rfl, hB⟩, ht, q⟩ := h
    refine ⟨_, pss_one (ps_ret (pe_allG (k := k) (caps := [0]) (xs := ["face"]) hr (by rfl) ma TB rfl (genS rfl rfl (by decide +kernel) rfl rfl) ⟨⟨rfl, .inl rfl, rfl⟩, trivial⟩ (by decide +kernel) (pi_tup (pv 1))
        (fun _ _ _ _ _ _ _ _ => pe_cmpR (show OpR _ _ (rIn K false) from op_in_seq) (pv 0) (pv 1) (by with_unfolding_all rfl)) (fun _ => rfl))), ?_⟩
    refine ⟨.ref b, rfl, b, rfl, ⟨_, hB⟩, ht.gen PT hP, fun H2 hT2 => ?_⟩
    have e2 := Ext.of_tabbed ht hP hT2
    refine gW_tup (xs := pts.map V.int) (fun i H3 => H3 = H2 ∧ hasAll fc (pts.take i) = true) ⟨rfl, rfl⟩ (fun i H3 e => by rw [e.1]; exact e2.sqT hB) (fun H3 e => ?_) fun i H3 x hx e => ?_
    · obtain ⟨rfl, h2⟩ := e
      rw [List.length_map, List.take_length] at h2
      have := q _ e2
      rw [h2] at this
      exact this
    · obtain ⟨rfl, h2⟩ := e
      rw [List.getElem?_map] at hx
      obtain ⟨y, hy, rfl⟩ := Option.map_eq_some_iff.mp hx
      refine ⟨.int y, rfl, .ref a, rfl, a, _, rfl, .inr (e2.sqT hA), rfl, flat_ints fc, _, rfl, fun hb => ⟨rfl, ?_⟩, fun hb => ?_⟩
      · have hb' : inV (.int y) (fc.map V.int) = true := hb
        rw [inV_ints] at hb'
        rw [List.take_add_one, hy]
        unfold hasAll at h2 ⊢
        rw [List.all_append, h2]
        simpa using hb'
      · have hb' : inV (.int y) (fc.map V.int) = false := by
          have z : ¬ inV (.int y) (fc.map V.int) = true := hb
          simpa using z
        have hq := q _ e2
        rw [hasAll_stop hy (by rw [← inV_ints]; exact hb')] at hq
        show Q (.bl (inV (.int y) (fc.map V.int))) H3
        rw [hb']
        exact hq
/-! ### in_some -/
def inSome (pts : List Int) (fss : List (List Int)) : Bool := fss.any fun fc => hasAll fc pts
def spInSome (K : PySem.W.Frag) (Ps : Tbs) : Sp := fun vs H Q _ => ∃ (x : V) (l : Addr) (xs : List V) (pts : List Int) (fss : List (List Int)), vs = [x, .ref l] ∧ TupI K H x pts ∧ SqL K H l xs ∧ Paired (TupI K H) xs fss ∧ Tb Ps H ∧ ∀ H', Ext Ps H H' → Q (.bl (inSome pts fss)) H'
theorem ok_inSome {f c fH cH PT : Addr} {fd fdH : FuncData} {k : Nat} (D : Def K mg "in_some" sInSome ["points", "faces"] f fd c) (DH : Def K mg "has_all" sHasAll ["face", "points"] fH fdH cH) (GH : FnOk P w K mg base CX0 (k + 2) fH fdH ["face", "points"] (spHasAll K Ps)) (TB : TabB base mg c PT) (hP : PT ∈ Ps) (ma : mg "any" = none) :
    FnOk P w K mg base CX0 (k + 4) f fd ["points", "faces"] (spInSome K Ps) := by
  refine D.ok (k := k + 3) scInSome (fun vs H Q E h => ?_) (fun A outer s H vs Q E hr h => ?_)
  · obtain ⟨x, l, xs, pts, fss, rfl, _⟩ := h
    rfl
  · obtain ⟨_, l, xs, pts, fss, rfl, ⟨a, rfl, hA⟩, hL, hp, ht, q⟩ := h
    refine ⟨_, pss_one (ps_ret (pe_anyG (k := k + 2) (caps := [0]) (xs := ["points"]) hr (by rfl) ma TB rfl (genS rfl rfl (by decide +kernel) rfl rfl) ⟨⟨rfl, .inl rfl, rfl⟩, trivial⟩ (by decide +kernel) (pi_list (pv 1))
        (fun _ _ _ _ _ _ _ hr' => pcl DH GH hr' (pa_cons (pv 0) (pa_cons (pv 1) pa_nil))) (fun _ => rfl))), ?_⟩
    refine ⟨.ref l, rfl, l, rfl, ⟨_, hL⟩, ht.gen PT hP, fun H2 hT2 => ?_⟩
    have e2 := Ext.of_tabbed ht hP hT2
    refine gW_lst (xs := xs) (fun i H3 => Ext Ps H H3 ∧ inSome pts (fss.take i) = false) ⟨e2, rfl⟩ (fun i H3 e => e.1.sqL hL) (fun H3 e => ?_) fun i H3 x hx e => ?_
    · obtain ⟨e3, h2⟩ := e
      rw [Paired.length hp, List.take_length] at h2
      have := q _ e3
      rw [h2] at this
      exact this
    · obtain ⟨e3, h2⟩ := e
      obtain ⟨fc, hf, hI⟩ := paired_get hp hx
      refine ⟨x, rfl, .ref a, rfl, x, .ref a, fc, pts, rfl, e3.tupI hI, ⟨a, rfl, e3.sqT hA⟩, e3.tb, fun H4 e4 => ⟨_, rfl, fun hb => ⟨e3.trans e4, ?_⟩, fun hb => ?_⟩⟩
      · rw [List.take_add_one, hf]
        unfold inSome at h2 ⊢
        rw [List.any_append, h2]
        simpa using hb
      · have hb' : hasAll fc pts = true := by
          have z : ¬ hasAll fc pts = false := hb
          simpa using z
        have e5 : inSome pts fss = true := by
          unfold inSome
          rw [List.any_eq_true]
          exact ⟨fc, List.mem_of_getElem? hf, hb'⟩
        have hq := q _ (e3.trans e4)
        rw [e5] at hq
        rw [hb']
        exact hq
def spInSomeT (K : PySem.W.Frag) (Ps : Tbs) : Sp := fun vs H Q _ => ∃ (x : V) (l : Addr) (xs : List V) (pts : List Int) (fss : List (List Int)), vs = [x, .ref l] ∧ TupI K H x pts ∧ SqT K H l xs ∧ Paired (TupI K H) xs fss ∧ Tb Ps H ∧ ∀ H', Ext Ps H H' → Q (.bl (inSome pts fss)) H'
/-- over a tuple -/
theorem ok_inSomeT {f c fH cH PT : Addr} {fd fdH : FuncData} {k : Nat} (D : Def K mg "in_some" sInSome ["points", "faces"] f fd c) (DH : Def K mg "has_all" sHasAll ["face", "points"] fH fdH cH) (GH : FnOk P w K mg base CX0 (k + 2) fH fdH ["face", "points"] (spHasAll K Ps)) (TB : TabB base mg c PT) (hP : PT ∈ Ps) (ma : mg "any" = none) :
    FnOk P w K mg base CX0 (k + 4) f fd ["points", "faces"] (spInSomeT K Ps) := by
  refine D.ok (k := k + 3) scInSome (fun vs H Q E h => ?_) (fun A outer s H vs Q E hr h => ?_)
  · obtain ⟨x, l, xs, pts, fss, rfl, _⟩ := h
    rfl
  · obtain ⟨_, l, xs, pts, fss, rfl, ⟨a, rfl, hA⟩, hL, hp, ht, q⟩ := h
    refine ⟨_, pss_one (ps_ret (pe_anyG (k := k + 2) (caps := [0]) (xs := ["points"]) hr (by rfl) ma TB rfl (genS rfl rfl (by decide +kernel) rfl rfl) ⟨⟨rfl, .inl rfl, rfl⟩, trivial⟩ (by decide +kernel) (pi_tup (pv 1))
        (fun _ _ _ _ _ _ _ hr' => pcl DH GH hr' (pa_cons (pv 0) (pa_cons (pv 1) pa_nil))) (fun _ => rfl))), ?_⟩
    refine ⟨.ref l, rfl, l, rfl, ⟨_, hL⟩, ht.gen PT hP, fun H2 hT2 => ?_⟩
    have e2 := Ext.of_tabbed ht hP hT2
    refine gW_tup (xs := xs) (fun i H3 => Ext Ps H H3 ∧ inSome pts (fss.take i) = false) ⟨e2, rfl⟩ (fun i H3 e => e.1.sqT hL) (fun H3 e => ?_) fun i H3 x hx e => ?_
    · obtain ⟨e3, h2⟩ := e
      rw [Paired.length hp, List.take_length] at h2
      have := q _ e3
      rw [h2] at this
      exact this
    · obtain ⟨e3, h2⟩ := e
      obtain ⟨fc, hf, hI⟩ := paired_get hp hx
      refine ⟨x, rfl, .ref a, rfl, x, .ref a, fc, pts, rfl, e3.tupI hI, ⟨a, rfl, e3.sqT hA⟩, e3.tb, fun H4 e4 => ⟨_, rfl, fun hb => ⟨e3.trans e4, ?_⟩, fun hb => ?_⟩⟩
      · rw [List.take_add_one, hf]
        unfold inSome at h2 ⊢
        rw [List.any_append, h2]
        simpa using hb
      · have hb' : hasAll fc pts = true := by
          have z : ¬ hasAll fc pts = false := hb
          simpa using z
        have e5 : inSome pts fss = true := by
          unfold inSome
          rw [List.any_eq_true]
          exact ⟨fc, List.mem_of_getElem? hf, hb'⟩
        have hq := q _ (e3.trans e4)
        rw [e5] at hq
        rw [hb']
        exact hq
end
end Lf

set_option maxHeartbeats 1000000
namespace Lf
open PySem PySem.Spec PyProof.Rows L2 GxR GxA SrT
/-! ### a list that grows: what holds between two turns -/
structure Stb (K : PySem.W.Frag) (Ps : Tbs) {β : Type} (F : Hp → V → β → Prop) : Prop where
  ext : ∀ H H' x b, Ext Ps H H' → F H x b → F H' x b
  put : ∀ H D l l' x b, H D = some (.lst l) → F H x b → F (upd H D (.lst l')) x b
def FI : Hp → V → Int → Prop := fun _ x b => x = .int b
theorem stbI {K : PySem.W.Frag} {Ps : Tbs} : Stb K Ps FI := ⟨fun _ _ _ _ _ h => h, fun _ _ _ _ _ _ _ h => h⟩
theorem tupI_put {K : PySem.W.Frag} {H : Hp} {D : Addr} {l l' : List V} {x : V} {b : List Int} (hD : H D = some (.lst l)) (h : TupI K H x b) : TupI K (upd H D (.lst l')) x b := by
  obtain ⟨t, e, hs⟩ := h
  refine ⟨t, e, ?_⟩
  rcases hs with (h | ⟨o, h⟩) | h
  · exact .inl (.inl (by rw [upd_ne (ne_of h hD (by intro z; cases z))]; exact h))
  · exact .inl (.inr ⟨o, by rw [upd_ne (ne_of h hD (by intro z; cases z))]; exact h⟩)
  · exact .inr h
theorem stbT {K : PySem.W.Frag} {Ps : Tbs} : Stb K Ps (TupI K) := ⟨fun _ _ _ _ e h => e.tupI h, fun _ _ _ _ _ _ hD h => tupI_put hD h⟩
structure CP (Ps : Tbs) {β : Type} (F : Hp → V → β → Prop) (H0 : Hp) (D : Addr) (out : List β) (n : Nat) (H : Hp) : Prop where
  ext : Ext Ps H0 H
  at_ : ∃ ys, H D = some (.lst ys) ∧ Paired (F H) ys out ∧ ys.length ≤ n
section
variable {K : PySem.W.Frag} {Ps : Tbs} {β : Type} {F : Hp → V → β → Prop} {H0 H H' : Hp} {D : Addr} {out : List β} {n : Nat}
theorem CP.start (ht : Tb Ps H0) (hD : H0 D = none) : CP Ps F H0 D [] 0 (upd H0 D (.lst [])) := ⟨Ext.new ht hD, [], upd_same, .nil, Nat.le_refl _⟩
theorem CP.mono (h : CP Ps F H0 D out n H) {m : Nat} (hm : n ≤ m) : CP Ps F H0 D out m H := ⟨h.ext, let ⟨ys, a, b, c⟩ := h.at_; ⟨ys, a, b, Nat.le_trans c hm⟩⟩
theorem CP.skip (S : Stb K Ps F) (h : CP Ps F H0 D out n H) (e : Ext Ps H H') : CP Ps F H0 D out n H' := by
  obtain ⟨ys, h1, h2, h3⟩ := h.at_
  exact ⟨h.ext.trans e, ys, e.lst h1, L2.Paired.mapP h2 fun _ _ z => S.ext _ _ _ _ e z, h3⟩
theorem paired_snoc {α γ : Type} {G : α → γ → Prop} {a : α} {c : γ} : ∀ {xs : List α} {ys : List γ}, Paired G xs ys → G a c → Paired G (xs ++ [a]) (ys ++ [c])
  | _, _, .nil, h => .cons h .nil
  | _, _, .cons r t, h => .cons r (paired_snoc t h)
theorem CP.put (S : Stb K Ps F) (hD : H0 D = none) (hn : n ≤ 1000) {y : V} {z : β} (h : CP Ps F H0 D out n H) (hF : F H y z) :
    ∃ acc, H D = some (.lst acc) ∧ acc.length < sizeLine ∧ CP Ps F H0 D (out ++ [z]) (n + 1) (upd H D (.lst (acc ++ [y]))) := by
  obtain ⟨ys, h1, h2, h3⟩ := h.at_
  refine ⟨ys, h1, small1000 (Nat.le_trans h3 hn), ⟨h.ext.write hD h1 (fun q z => by cases z), ys ++ [y], upd_same, ?_, ?_⟩⟩
  · refine paired_snoc (L2.Paired.mapP h2 fun _ _ z => S.put _ _ _ _ _ _ h1 z) (S.put _ _ _ _ _ _ h1 hF)
  · rw [List.length_append]
    exact Nat.add_le_add_right h3 1
end
theorem paired_ints {H : Hp} : ∀ {ys : List V} {ns : List Int}, Paired (FI H) ys ns → ys = ns.map V.int
  | _, _, .nil => rfl
  | _, _, .cons r t => by
    rw [List.map_cons, ← paired_ints t, show _ = V.int _ from r]
theorem ints_paired {H : Hp} : ∀ (ns : List Int), Paired (FI H) (ns.map V.int) ns
  | [] => .nil
  | _ :: ns => .cons rfl (ints_paired ns)
theorem map_int {ns : List Int} {i : Nat} {x : V} (h : (ns.map V.int)[i]? = some x) : ∃ y, ns[i]? = some y ∧ x = .int y := by
  rw [List.getElem?_map] at h
  obtain ⟨y, hy, e⟩ := Option.map_eq_some_iff.mp h
  exact ⟨y, hy, e.symm⟩
theorem filt_take {α : Type} (p : α → Bool) {l : List α} {i : Nat} {y : α} (h : l[i]? = some y) : (l.take (i + 1)).filter p = (l.take i).filter p ++ (if p y = true then [y] else []) := by
  rw [List.take_add_one, h, List.filter_append]
  cases hp : p y <;> simp [hp]

abbrev sLess : Stmt := topS 23
abbrev sParts : Stmt := topS 24
abbrev sFacesAt : Stmt := topS 36
abbrev sBrOn : Stmt := topS 37
abbrev sLies : Stmt := topS 38
theorem scLess : FnScope ["face", "points", "point"] ["face", "points"] (defScope sLess) := ⟨rfl, rfl, rfl, by decide +kernel, rfl, by decide +kernel, by decide +kernel⟩
theorem scParts : FnScope ["face", "found", "point", "part"] ["face"] (defScope sParts) := ⟨rfl, rfl, rfl, by decide +kernel, rfl, by decide +kernel, by decide +kernel⟩
theorem scFacesAt : FnScope ["stack", "lot", "number"] ["stack", "lot"] (defScope sFacesAt) := ⟨rfl, rfl, rfl, by decide +kernel, rfl, by decide +kernel, by decide +kernel⟩
theorem scBrOn : FnScope ["laid", "face", "point"] ["laid", "face"] (defScope sBrOn) := ⟨rfl, rfl, rfl, by decide +kernel, rfl, by decide +kernel, by decide +kernel⟩
theorem scLies : FnScope ["laid", "face"] ["laid", "face"] (defScope sLies) := ⟨rfl, rfl, rfl, by decide +kernel, rfl, by decide +kernel, by decide +kernel⟩
section
variable {P : Program} {w : World} {K : PySem.W.Frag} {mg : Str → Option Value} {base : Heap} {Ps : Tbs}
/-! ### less -/
def lessL (fc pts : List Int) : List Int := fc.filter fun p => !decide (p ∈ pts)
def spLess (K : PySem.W.Frag) (Ps : Tbs) : Sp := fun vs H Q _ => ∃ (x y : V) (fc pts : List Int), vs = [x, y] ∧ TupI K H x fc ∧ TupI K H y pts ∧ fc.length ≤ 100 ∧ Tb Ps H ∧ ∀ v H', Ext Ps H H' → TupI K H' v (lessL fc pts) → Q v H'
theorem ok_less {f c : Addr} {fd : FuncData} {k : Nat} (D : Def K mg "less" sLess ["face", "points"] f fd c) (mt : mg "tuple" = none) : FnOk P w K mg base CX0 (k + 1) f fd ["face", "points"] (spLess K Ps) := by
  refine D.ok (k := k) scLess (fun vs H Q E h => ?_) (fun A outer s H vs Q E hr h => ?_)
  · obtain ⟨x, y, fc, pts, rfl, _⟩ := h
    rfl
  · obtain ⟨_, _, fc, pts, rfl, ⟨a, rfl, hA⟩, ⟨b, rfl, hB⟩, hl, ht, q⟩ := h
    refine ⟨_, pss_one (ps_ret (pe_callTy call_tuple_of (by rfl) mt (by decide +kernel) (pa_cons (pe_lc (own := [("point", 2)]) (g := gName 2) (by rfl) scLess.nd (pi_tup (pv 0)) (blkOk_by (N := ["face", "points", "point"]) (sc := defScope sLess) (by decide +kernel))
      (fun _ _ _ _ _ => pg_name (i := 2) scLess.nd rfl (Or.inl rfl)) (fun _ _ _ _ _ => pts_one (pt_cmpR (show OpR _ _ (rIn K true) from op_notIn_seq) (pv 2) (pv 1) (by with_unfolding_all rfl))) (fun _ _ _ _ _ => pv 2)) pa_nil))), ?_⟩
    refine ⟨.ref a, rfl, a, rfl, ⟨_, hA⟩, fun D0 hD => lc_tup (K := K) (a := a) (xs := fc.map V.int) (fun i H3 => CP Ps FI H D0 (lessL (fc.take i) pts) i H3) (CP.start ht hD) (fun i H3 _ p => p.ext.sqT hA) (fun i x H3 hx p => ?_) (fun H3 p => ?_)⟩
    · obtain ⟨y, hy, rfl⟩ := map_int hx
      have hi : i < fc.length := (List.getElem?_eq_some_iff.mp hy).1
      refine ⟨rfl, .int y, rfl, .ref b, rfl, b, _, rfl, .inr (p.ext.sqT hB), rfl, flat_ints pts, _, rfl, ?_⟩
      show if (!inV (.int y) (pts.map V.int)) = true then _ else _
      rw [inV_ints]
      have hft := filt_take (fun p => !decide (p ∈ pts)) hy
      refine ite2 (fun hc => ?_) (fun hc => ?_)
      · refine ⟨.int y, rfl, ?_⟩
        have r := CP.put (stbI (K := K)) hD (by omega) p (show FI H3 (.int y) y from rfl)
        rw [if_pos hc] at hft
        unfold lessL at r ⊢
        rw [hft]
        exact r
      · rw [if_neg hc, List.append_nil] at hft
        unfold lessL at p ⊢
        rw [hft]
        exact p.mono (Nat.le_succ i)
    · obtain ⟨ys, h1, h2, h3⟩ := p.at_
      rw [List.length_map, List.take_length] at h2
      refine ⟨D0, ys, rfl, .inl ⟨.inl (.inl h1), fun l hl => q (.ref l) _ (p.ext.trans (Ext.new p.ext.tb hl)) ⟨l, rfl, ?_⟩⟩⟩
      rw [← paired_ints h2]
      exact .inl (.inl upd_same)
end
end Lf

set_option maxHeartbeats 1000000
namespace Lf
open PySem PySem.Spec PyProof.Rows L2 GxR GxA SrT
section
variable {P : Program} {w : World} {K : PySem.W.Frag} {mg : Str → Option Value} {base : Heap} {Ps : Tbs}
/-! ### parts_in -/
def grow (l : List (List Int)) (p : Int) : List (List Int) := l ++ l.map (· ++ [p])
def subsL (fc : List Int) : List (List Int) := fc.foldl grow [[]]
theorem foldl_len : ∀ (fc : List Int) (l : List (List Int)), (fc.foldl grow l).length = l.length * 2 ^ fc.length
  | [], l => by simp
  | p :: fc, l => by
    rw [List.foldl_cons, foldl_len fc]
    unfold grow
    rw [List.length_append, List.length_map, List.length_cons, Nat.pow_succ, ← Nat.two_mul, Nat.mul_comm 2, Nat.mul_assoc, Nat.mul_comm 2]
theorem subs_take {fc : List Int} {i : Nat} {y : Int} (h : fc[i]? = some y) : subsL (fc.take (i + 1)) = grow (subsL (fc.take i)) y := by
  unfold subsL
  rw [List.take_add_one, h]
  show ((fc.take i) ++ [y]).foldl grow [[]] = _
  rw [List.foldl_append]
  rfl
theorem subs_len (fc : List Int) : (subsL fc).length = 2 ^ fc.length := by
  unfold subsL
  rw [foldl_len]
  simp
theorem subs_le {fc : List Int} (h : fc.length ≤ 4) (i : Nat) : (subsL (fc.take i)).length ≤ 16 := by
  rw [subs_len]
  have h1 : (fc.take i).length ≤ 4 := by
    rw [List.length_take]
    omega
  calc 2 ^ (fc.take i).length ≤ 2 ^ 4 := Nat.pow_le_pow_right (by omega) h1
    _ = 16 := rfl
theorem mem_fold : ∀ (fc : List Int) (L : List (List Int)) (g : List Int), g ∈ fc.foldl grow L ↔ ∃ a ∈ L, ∃ s : List Int, s.Sublist fc ∧ g = a ++ s
  | [], L, g => by
    constructor
    · intro h
      exact ⟨g, h, [], .slnil, by simp⟩
    · rintro ⟨a, ha, s, hs, rfl⟩
      rw [List.sublist_nil.mp hs, List.append_nil]
      exact ha
  | p :: fc, L, g => by
    rw [List.foldl_cons, mem_fold fc]
    unfold grow
    constructor
    · rintro ⟨a, ha, s, hs, rfl⟩
      rcases List.mem_append.mp ha with h | h
      · exact ⟨a, h, s, hs.cons p, rfl⟩
      · obtain ⟨b, hb, rfl⟩ := List.mem_map.mp h
        exact ⟨b, hb, p :: s, hs.cons_cons p, by simp⟩
    · rintro ⟨a, ha, s, hs, rfl⟩
      rcases List.sublist_cons_iff.mp hs with h | ⟨r, rfl, h⟩
      · exact ⟨a, List.mem_append_left _ ha, s, h, rfl⟩
      · exact ⟨a ++ [p], List.mem_append_right _ (List.mem_map.mpr ⟨a, ha, rfl⟩), r, h, by simp⟩
theorem mem_subs {fc g : List Int} : g ∈ subsL fc ↔ g.Sublist fc := by
  unfold subsL
  rw [mem_fold]
  constructor
  · rintro ⟨a, ha, s, hs, rfl⟩
    rw [List.mem_singleton.mp ha]
    exact hs
  · intro h
    exact ⟨[], List.mem_singleton.mpr rfl, g, h, rfl⟩
theorem yes_ {σ : L2.St} {H : Hp} {Q : Bool → Hp → Prop} (h : Q true H) : tYes σ H Q := h
def spParts (K : PySem.W.Frag) (Ps : Tbs) : Sp := fun vs H Q _ => ∃ (x : V) (fc : List Int), vs = [x] ∧ TupI K H x fc ∧ fc.length ≤ 4 ∧ Tb Ps H ∧ ∀ l ys H', Ext Ps H H' → H l = none → H' l = some (.lst ys) → Paired (TupI K H') ys (sortL (subsL fc)) → Q (.ref l) H'
/-- the same, the parts as new tuples of their own -/
def spPartsH (K : PySem.W.Frag) (Ps : Tbs) : Sp := fun vs H Q _ => ∃ (x : V) (fc : List Int), vs = [x] ∧ TupI K H x fc ∧ fc.length ≤ 4 ∧ Tb Ps H ∧ ∀ l ys H', Ext Ps H H' → H l = none → H' l = some (.lst ys) → Paired (TupH H') ys (sortL (subsL fc)) → Q (.ref l) H'
theorem own_ext {H H' : Hp} {x : V} (e : Ext Ps H H') (h : OwnT H x) : OwnT H' x := let ⟨t, zs, h1, h2⟩ := h; ⟨t, zs, h1, e.old _ _ h2 (fun q z => by cases z)⟩
theorem tupH_ext {H H' : Hp} {x : V} {ns : List Int} (e : Ext Ps H H') (h : TupH H x ns) : TupH H' x ns := let ⟨t, h1, h2⟩ := h; ⟨t, h1, e.old _ _ h2 (fun q z => by cases z)⟩
theorem own_all {H : Hp} : ∀ {xs : List V} {fss : List (List Int)}, Paired (TupH H) xs fss → ∀ x ∈ xs, OwnT H x
  | _, _, .nil, x, h => nomatch h
  | _, _, .cons r t, x, h => by
    rcases List.mem_cons.mp h with e | h
    · rw [e]
      exact r.own
    · exact own_all t x h
theorem paired_app {α γ : Type} {G : α → γ → Prop} : ∀ {xs us : List α} {ys ws : List γ}, Paired G xs ys → Paired G us ws → Paired G (xs ++ us) (ys ++ ws)
  | _, _, _, _, .nil, h => h
  | _, _, _, _, .cons r t, h => .cons r (paired_app t h)
theorem stbH {K : PySem.W.Frag} {Ps : Tbs} : Stb K Ps TupH := ⟨fun _ _ _ _ e h => tupH_ext e h, fun H D l l' x b hD h => let ⟨t, h1, h2⟩ := h; ⟨t, h1, by rw [upd_ne (ne_of h2 hD (by intro z; cases z))]; exact h2⟩⟩
theorem ok_partsH {f c : Addr} {fd : FuncData} {k : Nat} (D : Def K mg "parts_in" sParts ["face"] f fd c) (ms : mg "sorted" = none) : FnOk P w K mg base CX0 (k + 1) f fd ["face"] (spPartsH K Ps) := by
  refine D.ok (k := k) scParts (fun vs H Q E h => ?_) (fun A outer s H vs Q E hr h => ?_)
  · obtain ⟨x, fc, rfl, _⟩ := h
    rfl
  · obtain ⟨_, fc, rfl, ⟨a, rfl, hA⟩, hl, ht, q⟩ := h
    refine ⟨_, pss_cons (ps_set (i := 1) scParts.nd rfl (.inl rfl) (pe_lst (pa_cons (pe_tup pa_nil) pa_nil)))
      (pss_cons (ps_for PassesOwn.never rfl (pi_tup (pv 0)) (pg_name (i := 2) scParts.nd rfl (.inr rfl))
        (pss_one (ps_set (i := 1) scParts.nd rfl (.inl rfl) (pe_op op_cat (pv 1) (pe_lc (own := [("part", 3)]) (g := gName 3) (by rfl) scParts.nd (pi_list (pv 1)) (blkOk_by (N := ["face", "found", "point", "part"]) (sc := defScope sParts) (by decide +kernel))
          (fun _ _ _ _ _ => pg_name (i := 3) scParts.nd rfl (Or.inl rfl)) (fun _ _ _ _ _ => pts_nil) (fun _ _ _ _ _ => pe_tup (show PA _ _ (StX.tStar K _ _) from StX.pa_star (pv 3) (pa_cons (pv 2) pa_nil))))))))
      (pss_one (ps_ret (show PE _ _ (tKn K _) from pe_kn (pe_callB (cr_sortL hr.units) (by rfl) ms (by decide +kernel) (pa_cons (pv 1) pa_nil)))))), ?_⟩
    -- found = [()]
    refine ⟨Nat.zero_le _, fun e he => ⟨(by show 1 ≤ sizeLine; decide), fun l0 hl0 => ?_⟩⟩
    have x1 : Ext Ps H (upd H e (.tup [])) := Ext.new ht he
    have x2 := x1.trans (Ext.new (o := .lst [.ref e]) x1.tb hl0)
    refine ⟨.ref a, rfl, a, rfl, ⟨_, x2.sqT hA⟩, for_tup (K := K) (a := a) (xs := fc.map V.int) (fun i σ H3 => Ext Ps H H3 ∧ ∃ (l : Addr) (ys : List V) (y2 y3 : Option V), σ = [some (.ref a), some (.ref l), y2, y3] ∧ H l = none ∧ H3 l = some (.lst ys) ∧ Paired (TupH H3) ys (subsL (fc.take i))) ?_ (fun i σ H3 _ p => p.1.sqT hA) (fun i x σ H3 hx p => ?_) (fun σ H3 p => ?_)⟩
    · refine ⟨x2, l0, [.ref e], none, none, rfl, x1.free hl0, upd_same, .cons ⟨e, rfl, ?_⟩ .nil⟩
      rw [upd_ne (ne_of_none upd_same hl0)]
      exact upd_same
    · obtain ⟨x3, l, ys, y2, y3, rfl, hn, h3, hp⟩ := p
      obtain ⟨y, hy, rfl⟩ := map_int hx
      have h16 := subs_le hl i
      have hlen : ys.length ≤ 16 := by
        rw [Paired.length hp]
        exact h16
      -- found + [..]
      refine ⟨.ref l, rfl, .ref l, rfl, l, rfl, ⟨_, .inl (.inl h3)⟩, fun D0 hD => lc_list (K := K) (a := l) (xs := ys) (fun j H4 => CP Ps TupH H3 D0 (((subsL (fc.take i)).take j).map (· ++ [y])) j H4) (CP.start x3.tb hD) (fun j H4 _ p => p.ext.sqL (.inl (.inl h3))) (fun j z H4 hz p => ?_) (fun H4 p => ?_)⟩
      · obtain ⟨g, hg, t, rfl, hTH⟩ := paired_get hp hz
        have hT : SqT K H3 t (g.map V.int) := .inl (.inl hTH)
        have hj : j < ys.length := (List.getElem?_eq_some_iff.mp hz).1
        refine ⟨rfl, yes_ (iteT ?_)⟩
        refine ⟨.ref t, rfl, t, g.map V.int, rfl, .inl (p.ext.sqT hT), .int y, rfl, ?_, fun u hu => ?_⟩
        · have hs := (mem_subs.mp (List.mem_of_getElem? hg)).length_le
          rw [List.length_take] at hs
          show (g.map V.int ++ [V.int y]).length ≤ sizeLine
          rw [List.length_append, List.length_map, List.length_singleton]
          exact Nat.le_of_lt (small1000 (by omega))
        · have x5 := Ext.new (o := .tup (g.map V.int ++ [.int y])) p.ext.tb hu
          have p5 := p.skip (stbH (K := K)) x5
          have r := CP.put (stbH (K := K)) hD (by omega) p5 (show TupH _ (.ref u) (g ++ [y]) from ⟨u, rfl, by rw [List.map_append]; exact upd_same⟩)
          rw [List.take_add_one, hg, List.map_append]
          exact r
      · obtain ⟨zs, h4, h5, h6⟩ := p.at_
        refine ⟨l, D0, ys, zs, rfl, rfl, p.ext.lst h3, h4, ?_, fun l2 hl2 => ?_⟩
        · exact Nat.le_of_lt (small1000 (by omega))
        · have x6 := Ext.new (o := .lst (ys ++ zs)) p.ext.tb hl2
          refine ⟨x3.trans (p.ext.trans x6), l2, ys ++ zs, some (.int y), y3, rfl, (x3.trans p.ext).free hl2, upd_same, ?_⟩
          rw [subs_take hy]
          unfold grow
          have e0 : (subsL (fc.take i)).take ys.length = subsL (fc.take i) := by
            rw [Paired.length hp, List.take_length]
          rw [e0] at h5
          exact L2.Paired.mapP (paired_app (L2.Paired.mapP hp fun _ _ z => tupH_ext p.ext z) h5) fun _ _ z => tupH_ext x6 z
    · obtain ⟨x3, l, ys, y2, y3, rfl, hn, h3, hp⟩ := p
      rw [List.length_map, List.take_length] at hp
      refine ⟨.ref l, rfl, l, ys, subsL fc, rfl, .inl (.inl h3), L2.Paired.mapP hp fun _ _ z => z.tup, fun zs u hz hm hu kn => ?_⟩
      have x4 := Ext.new (o := .lst zs) x3.tb hu
      exact q u zs _ (x3.trans x4) (x3.free hu) upd_same (tupsH_of kn (fun x hx => own_ext x4 (own_all hp x (hm x hx))) (x4.tups hz))
theorem ok_parts {f c : Addr} {fd : FuncData} {k : Nat} (D : Def K mg "parts_in" sParts ["face"] f fd c) (ms : mg "sorted" = none) : FnOk P w K mg base CX0 (k + 1) f fd ["face"] (spParts K Ps) :=
  (ok_partsH D ms).imp fun vs H Q E ⟨x, fc, h1, h2, h3, h4, q⟩ => ⟨x, fc, h1, h2, h3, h4, fun l ys H' e n g p => q l ys H' e n g (L2.Paired.mapP p fun _ _ z => z.tup)⟩
end
end Lf

set_option maxHeartbeats 1000000
namespace Lf
open PySem PySem.Spec PyProof.Rows L2 GxR GxA SrT
/-- a list of tuples of ints -/
def LstT (K : PySem.W.Frag) (H : Hp) (v : V) (fss : List (List Int)) : Prop := ∃ (l : Addr) (xs : List V), v = .ref l ∧ SqL K H l xs ∧ Paired (TupI K H) xs fss
/-- a stack -/
def Stk (K : PySem.W.Frag) (H : Hp) (v : V) (n k : Int) (fss : List (List Int)) : Prop := ∃ (a fa : Addr) (xs : List V), v = .ref a ∧ SqT K H a [.int n, .int k, .ref fa] ∧ SqT K H fa xs ∧ Paired (TupI K H) xs fss
structure StkOk (n k : Int) (fss : List (List Int)) : Prop where
  n1 : 1 ≤ n
  n8 : n ≤ 8
  k0 : 0 ≤ k
  kn : k ≤ n
  k4 : k ≤ 4
  l1 : 1 ≤ fss.length
  l70 : fss.length ≤ 70
  len : ∀ f ∈ fss, (f.length : Int) = k
  ris : ∀ f ∈ fss, f.Pairwise (· < ·)
  bel : ∀ f ∈ fss, ∀ i ∈ f, 0 ≤ i ∧ i < n
  srt : fss.Pairwise fun x y => lex x y = true
structure LotOk (m : Nat) (ns : List Int) : Prop where
  bel : ∀ i ∈ ns, 0 ≤ i ∧ i < (m : Int)
  ris : ns.Pairwise (· < ·)
  len : ns.length ≤ 100
theorem StkOk.len4 {n k : Int} {fss : List (List Int)} (S : StkOk n k fss) : ∀ f ∈ fss, f.length ≤ 4 := fun f hf => by
  have h1 := S.len f hf
  have h2 := S.k4
  omega
def facesAt (fss : List (List Int)) (ns : List Int) : List (List Int) := ns.map fun i => fss.getD i.toNat []
section
variable {P : Program} {w : World} {K : PySem.W.Frag} {mg : Str → Option Value} {base : Heap} {Ps : Tbs} {H H' : Hp}
theorem Ext.lstT (e : Ext Ps H H') {v : V} {fss : List (List Int)} (h : LstT K H v fss) : LstT K H' v fss := let ⟨l, xs, h1, h2, h3⟩ := h; ⟨l, xs, h1, e.sqL h2, e.tups h3⟩
theorem Ext.stk (e : Ext Ps H H') {v : V} {n k : Int} {fss : List (List Int)} (h : Stk K H v n k fss) : Stk K H' v n k fss := let ⟨a, fa, xs, h1, h2, h3, h4⟩ := h; ⟨a, fa, xs, h1, e.sqT h2, e.sqT h3, e.tups h4⟩
theorem at2 {n k : Int} {fa : Addr} : atI [V.int n, .int k, .ref fa] 2 = some (.ref fa) := atI_nat (j := 2) rfl
/-- the item at an int place -/
theorem atI_int {xs : List V} {i : Int} {x : V} (h0 : 0 ≤ i) (h : xs[i.toNat]? = some x) : atI xs i = some x := by
  have e : i = (i.toNat : Int) := (Int.toNat_of_nonneg h0).symm
  rw [e]
  exact atI_nat h
/-! ### faces_at -/
def spFacesAt (K : PySem.W.Frag) (Ps : Tbs) : Sp := fun vs H Q _ => ∃ (x y : V) (n k : Int) (fss : List (List Int)) (ns : List Int), vs = [x, y] ∧ Stk K H x n k fss ∧ TupI K H y ns ∧ (∀ i ∈ ns, 0 ≤ i ∧ i < (fss.length : Int)) ∧ ns.length ≤ 100 ∧ Tb Ps H ∧
  ∀ v H', Ext Ps H H' → LstT K H' v (facesAt fss ns) → Q v H'
def spFacesAtF (K : PySem.W.Frag) (Ps : Tbs) : Sp := fun vs H Q _ => ∃ (x y : V) (n k : Int) (fss : List (List Int)) (ns : List Int), vs = [x, y] ∧ Stk K H x n k fss ∧ TupI K H y ns ∧ (∀ i ∈ ns, 0 ≤ i ∧ i < (fss.length : Int)) ∧ ns.length ≤ 100 ∧ Tb Ps H ∧
  ∀ (l : Addr) (ys : List V) (H' : Hp), Ext Ps H H' → H l = none → H' l = some (.lst ys) → Paired (TupI K H') ys (facesAt fss ns) → Q (.ref l) H'
theorem ok_facesAtF {f c : Addr} {fd : FuncData} {k : Nat} (D : Def K mg "faces_at" sFacesAt ["stack", "lot"] f fd c) : FnOk P w K mg base CX0 (k + 1) f fd ["stack", "lot"] (spFacesAtF K Ps) := by
  refine D.ok (k := k) scFacesAt (fun vs H Q E h => ?_) (fun A outer s H vs Q E hr h => ?_)
  · obtain ⟨x, y, n, kk, fss, ns, rfl, _⟩ := h
    rfl
  · obtain ⟨_, _, n, kk, fss, ns, rfl, ⟨a, fa, xs, rfl, h1, h2, h3⟩, ⟨b, rfl, hB⟩, hb, hl, ht, q⟩ := h
    refine ⟨_, pss_one (ps_ret (pe_lc (own := [("number", 2)]) (g := gName 2) (by rfl) scFacesAt.nd (pi_tup (pv 1)) (blkOk_by (N := ["stack", "lot", "number"]) (sc := defScope sFacesAt) (by decide +kernel))
      (fun _ _ _ _ _ => pg_name (i := 2) scFacesAt.nd rfl (Or.inl rfl)) (fun _ _ _ _ _ => pts_nil) (fun _ _ _ _ _ => pe_ix (show IxR _ (rIxT K) from ix_tup) (pe_ix (show IxR _ (rIxT K) from ix_tup) (pv 0) pe_int (fun _ _ => rfl)) (pv 2) (fun _ _ => rfl)))), ?_⟩
    refine ⟨.ref b, rfl, b, rfl, ⟨_, hB⟩, fun D0 hD => lc_tup (K := K) (a := b) (xs := ns.map V.int) (fun i H3 => CP Ps (TupI K) H D0 (facesAt fss (ns.take i)) i H3) (CP.start ht hD) (fun i H3 _ p => p.ext.sqT hB) (fun i x H3 hx p => ?_) (fun H3 p => ?_)⟩
    · obtain ⟨y, hy, rfl⟩ := map_int hx
      have hi : i < ns.length := (List.getElem?_eq_some_iff.mp hy).1
      obtain ⟨b0, b1⟩ := hb y (List.mem_of_getElem? hy)
      have hlt : y.toNat < fss.length := by omega
      obtain ⟨z, hz, hI⟩ := paired_get' h3 (List.getElem?_eq_getElem hlt)
      refine ⟨rfl, yes_ (iteT ?_)⟩
      refine ⟨.ref a, rfl, a, _, 2, .ref fa, rfl, rfl, p.ext.sqT h1, at2, .int y, rfl, fa, xs, y, z, rfl, rfl, p.ext.sqT h2, atI_int b0 hz, ?_⟩
      have r := CP.put (stbT (K := K)) hD (by omega) p (p.ext.tupI hI)
      unfold facesAt at r ⊢
      rw [List.take_add_one, hy, List.map_append]
      have eg : fss.getD y.toNat [] = fss[y.toNat] := by
        rw [List.getD_eq_getElem?_getD, List.getElem?_eq_getElem hlt]
        rfl
      rw [← eg] at r
      exact r
    · obtain ⟨ys, e1, e2, e3⟩ := p.at_
      rw [List.length_map, List.take_length] at e2
      exact q D0 ys H3 p.ext hD e1 e2
theorem ok_facesAt {f c : Addr} {fd : FuncData} {k : Nat} (D : Def K mg "faces_at" sFacesAt ["stack", "lot"] f fd c) : FnOk P w K mg base CX0 (k + 1) f fd ["stack", "lot"] (spFacesAt K Ps) :=
  (ok_facesAtF D).imp fun vs H Q E ⟨x, y, n, k, fss, ns, h1, h2, h3, h4, h5, h6, q⟩ => ⟨x, y, n, k, fss, ns, h1, h2, h3, h4, h5, h6, fun l ys H' e nl hl hp => q (.ref l) H' e ⟨l, ys, rfl, .inl (.inl hl), hp⟩⟩
/-! ### brought_on -/
def brOn (laid : List (List Int)) (fc : List Int) : List Int := fc.filter fun p => inSome (lessL fc [p]) laid
def spBrOn (K : PySem.W.Frag) (Ps : Tbs) : Sp := fun vs H Q _ => ∃ (x y : V) (laid : List (List Int)) (fc : List Int), vs = [x, y] ∧ LstT K H x laid ∧ TupI K H y fc ∧ fc.length ≤ 100 ∧ Tb Ps H ∧ ∀ v H', Ext Ps H H' → TupI K H' v (brOn laid fc) → Q v H'
theorem ok_brOn {f c fI cI fL cL : Addr} {fd fdI fdL : FuncData} {k : Nat} (D : Def K mg "brought_on" sBrOn ["laid", "face"] f fd c) (DI : Def K mg "in_some" sInSome ["points", "faces"] fI fdI cI) (GI : FnOk P w K mg base CX0 k fI fdI ["points", "faces"] (spInSome K Ps))
    (DL : Def K mg "less" sLess ["face", "points"] fL fdL cL) (GL : FnOk P w K mg base CX0 k fL fdL ["face", "points"] (spLess K Ps)) (mt : mg "tuple" = none) : FnOk P w K mg base CX0 (k + 1) f fd ["laid", "face"] (spBrOn K Ps) := by
  refine D.ok (k := k) scBrOn (fun vs H Q E h => ?_) (fun A outer s H vs Q E hr h => ?_)
  · obtain ⟨x, y, laid, fc, rfl, _⟩ := h
    rfl
  · obtain ⟨_, _, laid, fc, rfl, ⟨l, xs, rfl, h1, h2⟩, ⟨a, rfl, hA⟩, hl, ht, q⟩ := h
    refine ⟨_, pss_one (ps_ret (pe_callTy call_tuple_of (by rfl) mt (by decide +kernel) (pa_cons (pe_lc (own := [("point", 2)]) (g := gName 2) (by rfl) scBrOn.nd (pi_tup (pv 1)) (blkOk_by (N := ["laid", "face", "point"]) (sc := defScope sBrOn) (by decide +kernel))
      (fun _ _ _ _ _ => pg_name (i := 2) scBrOn.nd rfl (Or.inl rfl)) (fun _ _ _ _ _ => pts_one (pt_val (pcl DI GI hr (pa_cons (pcl DL GL hr (pa_cons (pv 1) (pa_cons (pe_tup (pa_cons (pv 2) pa_nil)) pa_nil))) (pa_cons (pv 0) pa_nil))))) (fun _ _ _ _ _ => pv 2)) pa_nil))), ?_⟩
    refine ⟨.ref a, rfl, a, rfl, ⟨_, hA⟩, fun D0 hD => lc_tup (K := K) (a := a) (xs := fc.map V.int) (fun i H3 => CP Ps FI H D0 ((fc.take i).filter fun p => inSome (lessL fc [p]) laid) i H3) (CP.start ht hD) (fun i H3 _ p => p.ext.sqT hA) (fun i x H3 hx p => ?_) (fun H3 p => ?_)⟩
    · obtain ⟨y, hy, rfl⟩ := map_int hx
      have hi : i < fc.length := (List.getElem?_eq_some_iff.mp hy).1
      refine ⟨rfl, .ref a, rfl, .int y, rfl, (by show 1 ≤ sizeLine; decide), fun t htp => ?_⟩
      have x4 := Ext.new (o := .tup [.int y]) p.ext.tb htp
      refine ⟨.ref a, .ref t, fc, [y], rfl, ⟨a, rfl, x4.sqT (p.ext.sqT hA)⟩, ⟨t, rfl, .inl (.inl upd_same)⟩, hl, x4.tb, fun v H5 x5 hv => ?_⟩
      have x35 := x4.trans x5
      refine ⟨.ref l, rfl, v, l, xs, _, laid, rfl, hv, x35.sqL (p.ext.sqL h1), x35.tups (p.ext.tups h2), x35.tb, fun H6 x6 => ⟨_, rfl, ?_⟩⟩
      have p6 := p.skip (stbI (K := K)) (x35.trans x6)
      have hft := filt_take (fun p => inSome (lessL fc [p]) laid) hy
      refine ite2 (fun hc => ?_) (fun hc => ?_)
      · refine ⟨.int y, rfl, ?_⟩
        have r := CP.put (stbI (K := K)) hD (by omega) p6 (show FI H6 (.int y) y from rfl)
        rw [if_pos hc] at hft
        rw [hft]
        exact r
      · rw [if_neg hc, List.append_nil] at hft
        rw [hft]
        exact p6.mono (Nat.le_succ i)
    · obtain ⟨ys, e1, e2, e3⟩ := p.at_
      rw [List.length_map, List.take_length] at e2
      refine ⟨D0, ys, rfl, .inl ⟨.inl (.inl e1), fun u hu => q (.ref u) _ (p.ext.trans (Ext.new p.ext.tb hu)) ⟨u, rfl, ?_⟩⟩⟩
      show SqT K _ u ((fc.filter fun p => inSome (lessL fc [p]) laid).map V.int)
      rw [← paired_ints e2]
      exact .inl (.inl upd_same)
/-! ### lies_on -/
def liesOn (laid : List (List Int)) (fc : List Int) : Bool := !inSome (brOn laid fc) laid
def spLies (K : PySem.W.Frag) (Ps : Tbs) : Sp := fun vs H Q _ => ∃ (x y : V) (laid : List (List Int)) (fc : List Int), vs = [x, y] ∧ LstT K H x laid ∧ TupI K H y fc ∧ fc.length ≤ 100 ∧ Tb Ps H ∧ ∀ H', Ext Ps H H' → Q (.bl (liesOn laid fc)) H'
theorem ok_lies {f c fI cI fB cB : Addr} {fd fdI fdB : FuncData} {k : Nat} (D : Def K mg "lies_on" sLies ["laid", "face"] f fd c) (DI : Def K mg "in_some" sInSome ["points", "faces"] fI fdI cI) (GI : FnOk P w K mg base CX0 k fI fdI ["points", "faces"] (spInSome K Ps))
    (DB : Def K mg "brought_on" sBrOn ["laid", "face"] fB fdB cB) (GB : FnOk P w K mg base CX0 k fB fdB ["laid", "face"] (spBrOn K Ps)) : FnOk P w K mg base CX0 (k + 1) f fd ["laid", "face"] (spLies K Ps) := by
  refine D.ok (k := k) scLies (fun vs H Q E h => ?_) (fun A outer s H vs Q E hr h => ?_)
  · obtain ⟨x, y, laid, fc, rfl, _⟩ := h
    rfl
  · obtain ⟨_, y, laid, fc, rfl, hL, hA, hl, ht, q⟩ := h
    obtain ⟨l, xs, rfl, h1, h2⟩ := id hL
    refine ⟨_, pss_one (ps_ret (pe_not (pcl DI GI hr (pa_cons (pcl DB GB hr (pa_cons (pv 0) (pa_cons (pv 1) pa_nil))) (pa_cons (pv 0) pa_nil))))), ?_⟩
    refine ⟨.ref l, rfl, y, rfl, .ref l, y, laid, fc, rfl, hL, hA, hl, ht, fun v H1 x1 hv => ?_⟩
    exact ⟨.ref l, rfl, v, l, xs, _, laid, rfl, hv, x1.sqL h1, x1.tups h2, x1.tb, fun H2 x2 => ⟨_, rfl, q _ (x1.trans x2)⟩⟩
end
end Lf

set_option maxHeartbeats 1000000
namespace Lf
open PySem PySem.Spec PyProof.Rows L2 GxR GxA SrT
/-- len of a list or a tuple -/
def rLenS (K : PySem.W.Frag) : List V → Hp → VK → Prop := fun xs H Q => ∃ p ys, xs = [.ref p] ∧ (SqL K H p ys ∨ SqT K H p ys) ∧ Q (.int ys.length) H
theorem call_lenS {X : Cx} {K : PySem.W.Frag} (e : X.K = K) : CallR X (.builtin "len") (rLenS K) := by
  subst e
  exact call_len_seq
abbrev sNeedWithin : Stmt := topS 17
abbrev sIsStack : Stmt := topS 29
abbrev sAreFaces : Stmt := topS 30
abbrev sNeedStack : Stmt := topS 31
abbrev sNeedFace : Stmt := topS 32
abbrev sNeedLot : Stmt := topS 34
abbrev sBeside : Stmt := topS 35
theorem scNeedWithin : FnScope ["number", "least", "most"] ["number", "least", "most"] (defScope sNeedWithin) := ⟨rfl, rfl, rfl, by decide +kernel, rfl, by decide +kernel, by decide +kernel⟩
theorem scIsStack : FnScope ["thing", "n", "k", "faces"] ["thing"] (defScope sIsStack) := ⟨rfl, rfl, rfl, by decide +kernel, rfl, by decide +kernel, by decide +kernel⟩
theorem scAreFaces : FnScope ["n", "k", "thing"] ["n", "k", "thing"] (defScope sAreFaces) := ⟨rfl, rfl, rfl, by decide +kernel, rfl, by decide +kernel, by decide +kernel⟩
theorem scNeedStack : FnScope ["stack"] ["stack"] (defScope sNeedStack) := ⟨rfl, rfl, rfl, by decide +kernel, rfl, by decide +kernel, by decide +kernel⟩
theorem scNeedFace : FnScope ["stack", "number"] ["stack", "number"] (defScope sNeedFace) := ⟨rfl, rfl, rfl, by decide +kernel, rfl, by decide +kernel, by decide +kernel⟩
theorem scNeedLot : FnScope ["stack", "lot"] ["stack", "lot"] (defScope sNeedLot) := ⟨rfl, rfl, rfl, by decide +kernel, rfl, by decide +kernel, by decide +kernel⟩
theorem scBeside : FnScope ["stack", "lot", "number"] ["stack", "lot", "number"] (defScope sBeside) := ⟨rfl, rfl, rfl, by decide +kernel, rfl, by decide +kernel, by decide +kernel⟩
section
variable {P : Program} {w : World} {K : PySem.W.Frag} {mg : Str → Option Value} {base : Heap} {Ps : Tbs} {H H' : Hp}
/-! ### need_within -/
def spNeedWithin : Sp := fun vs H Q _ => ∃ i lo hi : Int, vs = [.int i, .int lo, .int hi] ∧ lo ≤ i ∧ i ≤ hi ∧ Q .non H
theorem ok_needWithin {f c fW cW : Addr} {fd fdW : FuncData} {k : Nat} (D : Def K mg "need_within" sNeedWithin ["number", "least", "most"] f fd c) (DW : Def K mg "is_within" sWithin ["thing", "least", "most"] fW fdW cW) (GW : FnOk P w K mg base CX0 k fW fdW ["thing", "least", "most"] spWithin) :
    FnOk P w K mg base CX0 (k + 1) f fd ["number", "least", "most"] spNeedWithin := by
  refine D.ok (k := k) scNeedWithin (fun vs H Q E h => ?_) (fun A outer s H vs Q E hr h => ?_)
  · obtain ⟨i, lo, hi, rfl, _⟩ := h
    rfl
  · obtain ⟨i, lo, hi, rfl, h1, h2, q⟩ := h
    refine ⟨_, pss_one (ps_if (pt_not (pt_val (pcl DW GW hr (pa_cons (pv 0) (pa_cons (pv 1) (pa_cons (pv 2) pa_nil)))))) (pss_one ps_never) pss_nil), ?_⟩
    exact ⟨.int i, rfl, .int lo, rfl, .int hi, rfl, i, lo, hi, rfl, h1, h2, true, rfl, iteF q⟩
/-! ### are_faces -/
def spAreFaces (K : PySem.W.Frag) (Ps : Tbs) : Sp := fun vs H Q _ => ∃ (n k : Int) (fa : Addr) (xs : List V) (fss : List (List Int)), vs = [.int n, .int k, .ref fa] ∧ SqT K H fa xs ∧ Paired (TupI K H) xs fss ∧ StkOk n k fss ∧ Tb Ps H ∧ ∀ H', Ext Ps H H' → Q (.bl true) H'
theorem ok_areFaces {f c fR cR fS cS PT : Addr} {fd fdR fdS : FuncData} {k : Nat} {t70 : Tok} (D : Def K mg "are_faces" sAreFaces ["n", "k", "thing"] f fd c) (DR : Def K mg "is_rising" sRising ["thing", "many"] fR fdR cR) (GR : FnOk P w K mg base CX0 k fR fdR ["thing", "many"] (spRising K Ps))
    (DS : Def K mg "rises" sRises ["things"] fS fdS cS) (GS : FnOk P w K mg base CX0 (k + 1) fS fdS ["things"] (spRises K Ps)) (TB : TabB base mg c PT) (hP : PT ∈ Ps)
    (mi : mg "isinstance" = none) (mt : mg "tuple" = none) (ml : mg "len" = none) (ma : mg "all" = none) (m70 : mg "MOST_FACES" = some (.int 70 t70)) : FnOk P w K mg base CX0 (k + 2) f fd ["n", "k", "thing"] (spAreFaces K Ps) := by
  refine D.ok (k := k + 1) scAreFaces (fun vs H Q E h => ?_) (fun A outer s H vs Q E hr h => ?_)
  · obtain ⟨n, kk, fa, xs, fss, rfl, _⟩ := h
    rfl
  · obtain ⟨n, kk, fa, xs, fss, rfl, hF, hp, S, ht, q⟩ := h
    have hlen := Paired.length hp
    have l1 := S.l1
    have l70 := S.l70
    refine ⟨_, pss_cons (ps_if (PW.pt (pw_or (pt_not (pt_val (pe_callB call_isi (by rfl) mi (by decide +kernel) (pa_cons (pv 2) (pa_cons (pe_bltn (v := .ty "tuple") (by rfl) mt (by decide +kernel) rfl) pa_nil)))))
        (pw_or1 (pt_not (pt_chain op_le op_le pe_int (pe_callB call_len_seq (by rfl) ml PySem.boot_len (pa_cons (pv 2) pa_nil)) (pe_glob rfl m70 (v := .int 70) ⟨_, rfl⟩)))))) (pss_one (ps_ret pe_bl)) pss_nil)
      (pss_one (ps_ret (pe_and (pe_allG (k := k) (caps := [0, 1]) (xs := ["n", "k"]) hr (by rfl) ma TB rfl (genS rfl rfl (by decide +kernel) rfl rfl) ⟨⟨rfl, .inl rfl, rfl⟩, ⟨rfl, .inl rfl, rfl⟩, trivial⟩ (by decide +kernel) (pi_tup (pv 2))
        (fun _ _ _ _ _ _ _ hr' => pe_and (pcl DR GR hr' (pa_cons (pv 0) (pa_cons (pv 1) pa_nil))) (pe_one (pe_cmpR op_eq (pe_callB (call_lenS (K := K) rfl) (by rfl) ml PySem.boot_len (pa_cons (pv 0) pa_nil)) (pv 2) (nomark _)))) (fun _ => rfl))
        (pe_one (pcl DS GS hr (pa_cons (pv 2) pa_nil)))))), ?_⟩
    refine ⟨.ref fa, rfl, .ref fa, .ty "tuple", .type "tuple", .type "tuple", true, rfl, .ty _, ty_tup hF, kit_ty (by decide +kernel), true, rfl, iteF ?_⟩
    refine ⟨.ref fa, rfl, fa, xs, rfl, .inr hF, 1, (xs.length : Int), rfl, rfl, true, ?_, iteT ?_⟩
    · exact congrArg V.bl (decide_eq_true (by omega))
    refine ⟨(xs.length : Int), 70, rfl, rfl, true, ?_, iteF ?_⟩
    · exact congrArg V.bl (decide_eq_true (by omega))
    refine ⟨.ref fa, rfl, fa, rfl, ⟨_, hF⟩, ht.gen PT hP, fun H2 hT2 => ?_⟩
    have e2 := Ext.of_tabbed ht hP hT2
    refine gW_tup (xs := xs) (fun _ H3 => Ext Ps H H3) e2 (fun i H3 e => e.sqT hF) (fun H3 e => ⟨true, rfl, iteT ?_⟩) fun i H3 x hx e => ?_
    · exact ⟨.ref fa, rfl, fa, xs, rfl, e.sqT hF, .inr ⟨fss, e.tups hp, S.srt⟩, by omega, e.tb, fun H4 e4 => q _ (e.trans e4)⟩
    · obtain ⟨fc, hf, b, rfl, hI⟩ := paired_get hp hx
      have hm := List.mem_of_getElem? hf
      have h4 := S.len4 fc hm
      refine ⟨.ref b, rfl, .int n, rfl, b, fc, n, rfl, e.sqT hI, S.bel fc hm, S.ris fc hm, by omega, e.tb, fun H4 e4 => ⟨true, rfl, iteT ?_⟩⟩
      refine ⟨.ref b, rfl, b, _, rfl, .inr (e4.sqT (e.sqT hI)), .int kk, rfl, rfl, true, ?_, fun _ => e.trans e4, fun z => absurd rfl z⟩
      rw [List.length_map, S.len fc hm]
      exact congrArg V.bl (decide_eq_true rfl)
/-! ### is_stack -/
def spIsStack (K : PySem.W.Frag) (Ps : Tbs) : Sp := fun vs H Q _ => ∃ (x : V) (n k : Int) (fss : List (List Int)), vs = [x] ∧ Stk K H x n k fss ∧ StkOk n k fss ∧ Tb Ps H ∧ ∀ H', Ext Ps H H' → Q (.bl true) H'
theorem ok_isStack {f c fW cW fA cA : Addr} {fd fdW fdA : FuncData} {k : Nat} {t8 t4 : Tok} (D : Def K mg "is_stack" sIsStack ["thing"] f fd c) (DW : Def K mg "is_within" sWithin ["thing", "least", "most"] fW fdW cW) (GW : FnOk P w K mg base CX0 k fW fdW ["thing", "least", "most"] spWithin)
    (DA : Def K mg "are_faces" sAreFaces ["n", "k", "thing"] fA fdA cA) (GA : FnOk P w K mg base CX0 k fA fdA ["n", "k", "thing"] (spAreFaces K Ps))
    (mi : mg "isinstance" = none) (mt : mg "tuple" = none) (ml : mg "len" = none) (mm : mg "min" = none) (m8 : mg "MOST_POINTS" = some (.int 8 t8)) (m4 : mg "MOST_IN_FACE" = some (.int 4 t4)) : FnOk P w K mg base CX0 (k + 1) f fd ["thing"] (spIsStack K Ps) := by
  refine D.ok (k := k) scIsStack (fun vs H Q E h => ?_) (fun A outer s H vs Q E hr h => ?_)
  · obtain ⟨x, n, kk, fss, rfl, _⟩ := h
    rfl
  · obtain ⟨_, n, kk, fss, rfl, ⟨a, fa, xs, rfl, h1, h2, h3⟩, S, ht, q⟩ := h
    have n1 := S.n1
    have n8 := S.n8
    have k0 := S.k0
    have kn := S.kn
    have k4 := S.k4
    refine ⟨_, pss_cons (ps_if (PW.pt (pw_or (pt_not (pt_val (pe_callB call_isi (by rfl) mi (by decide +kernel) (pa_cons (pv 0) (pa_cons (pe_bltn (v := .ty "tuple") (by rfl) mt (by decide +kernel) rfl) pa_nil)))))
        (pw_or1 (pt_cmpR op_ne (pe_callB (call_lenS (K := K) rfl) (by rfl) ml PySem.boot_len (pa_cons (pv 0) pa_nil)) pe_int (nomark _))))) (pss_one (ps_ret pe_bl)) pss_nil)
      (pss_cons (ps_asg (pv 0) (pg_tup (by rfl) (pgs_cons (pg_name (i := 1) scIsStack.nd rfl (.inl rfl)) (pgs_cons (pg_name (i := 2) scIsStack.nd rfl (.inl rfl)) (pgs_cons (pg_name (i := 3) scIsStack.nd rfl (.inl rfl)) pgs_nil)))))
      (pss_cons (ps_if (PW.pt (pw_or (pt_not (pt_val (pcl DW GW hr (pa_cons (pv 1) (pa_cons pe_int (pa_cons (pe_glob rfl m8 (v := .int 8) ⟨_, rfl⟩) pa_nil))))))
        (pw_or1 (pt_not (pt_val (pcl DW GW hr (pa_cons (pv 2) (pa_cons pe_int (pa_cons (pe_callB (call_min2 rfl) (by rfl) mm (by decide +kernel) (pa_cons (pv 1) (pa_cons (pe_glob rfl m4 (v := .int 4) ⟨_, rfl⟩) pa_nil))) pa_nil))))))))) (pss_one (ps_ret pe_bl)) pss_nil)
      (pss_one (ps_ret (pcl DA GA hr (pa_cons (pv 1) (pa_cons (pv 2) (pa_cons (pv 3) pa_nil)))))))), ?_⟩
    refine ⟨.ref a, rfl, .ref a, .ty "tuple", .type "tuple", .type "tuple", true, rfl, .ty _, ty_tup h1, kit_ty (by decide +kernel), true, rfl, iteF ?_⟩
    refine ⟨.ref a, rfl, a, _, rfl, .inr h1, rfl, false, ?_, iteF ?_⟩
    · exact congrArg V.bl (by simp)
    refine ⟨.ref a, rfl, a, _, rfl, h1, rfl, _, _, rfl, _, _, rfl, _, _, rfl, rfl, ?_⟩
    refine ⟨.int n, rfl, n, 1, 8, rfl, n1, n8, true, rfl, iteF ?_⟩
    refine ⟨.int kk, rfl, .int n, rfl, n, 4, rfl, kk, 0, _, rfl, k0, ?_, true, rfl, iteF ?_⟩
    · split <;> omega
    exact ⟨.int n, rfl, .int kk, rfl, .ref fa, rfl, n, kk, fa, xs, fss, rfl, h2, h3, S, ht, q⟩
/-! ### need_stack, need_face, need_lot, need_face_beside -/
def spNeedStack (K : PySem.W.Frag) (Ps : Tbs) : Sp := fun vs H Q _ => ∃ (x : V) (n k : Int) (fss : List (List Int)), vs = [x] ∧ Stk K H x n k fss ∧ StkOk n k fss ∧ Tb Ps H ∧ ∀ H', Ext Ps H H' → Q .non H'
theorem ok_needStack {f c fS cS : Addr} {fd fdS : FuncData} {k : Nat} (D : Def K mg "need_stack" sNeedStack ["stack"] f fd c) (DS : Def K mg "is_stack" sIsStack ["thing"] fS fdS cS) (GS : FnOk P w K mg base CX0 k fS fdS ["thing"] (spIsStack K Ps)) : FnOk P w K mg base CX0 (k + 1) f fd ["stack"] (spNeedStack K Ps) := by
  refine D.ok (k := k) scNeedStack (fun vs H Q E h => ?_) (fun A outer s H vs Q E hr h => ?_)
  · obtain ⟨x, n, kk, fss, rfl, _⟩ := h
    rfl
  · obtain ⟨x, n, kk, fss, rfl, hS, S, ht, q⟩ := h
    refine ⟨_, pss_one (ps_if (pt_not (pt_val (pcl DS GS hr (pa_cons (pv 0) pa_nil)))) (pss_one ps_never) pss_nil), ?_⟩
    exact ⟨x, rfl, x, n, kk, fss, rfl, hS, S, ht, fun H1 e1 => ⟨true, rfl, iteF (q _ e1)⟩⟩
def spNeedFace (K : PySem.W.Frag) : Sp := fun vs H Q _ => ∃ (x : V) (n k i : Int) (fss : List (List Int)), vs = [x, .int i] ∧ Stk K H x n k fss ∧ 0 ≤ i ∧ i < (fss.length : Int) ∧ Q .non H
theorem ok_needFace {f c fW cW : Addr} {fd fdW : FuncData} {k : Nat} (D : Def K mg "need_face" sNeedFace ["stack", "number"] f fd c) (DW : Def K mg "need_within" sNeedWithin ["number", "least", "most"] fW fdW cW) (GW : FnOk P w K mg base CX0 k fW fdW ["number", "least", "most"] spNeedWithin)
    (ml : mg "len" = none) : FnOk P w K mg base CX0 (k + 1) f fd ["stack", "number"] (spNeedFace K) := by
  refine D.ok (k := k) scNeedFace (fun vs H Q E h => ?_) (fun A outer s H vs Q E hr h => ?_)
  · obtain ⟨x, n, kk, i, fss, rfl, _⟩ := h
    rfl
  · obtain ⟨_, n, kk, i, fss, rfl, ⟨a, fa, xs, rfl, h1, h2, h3⟩, i0, i1, q⟩ := h
    have hlen := Paired.length h3
    refine ⟨_, pss_one (ps_expr (pcl DW GW hr (pa_cons (pv 1) (pa_cons pe_int (pa_cons (pe_op op_sub (pe_callB (call_lenS (K := K) rfl) (by rfl) ml PySem.boot_len (pa_cons (pe_ix ix_tup (pv 0) pe_int (fun _ _ => rfl)) pa_nil)) pe_int) pa_nil))))), ?_⟩
    exact ⟨.int i, rfl, .ref a, rfl, a, _, 2, .ref fa, rfl, rfl, h1, at2, fa, xs, rfl, .inr h2, (xs.length : Int), 1, rfl, rfl, i, 0, (xs.length : Int) - 1, rfl, i0, by omega, q⟩
def spNeedLot (K : PySem.W.Frag) (Ps : Tbs) : Sp := fun vs H Q _ => ∃ (x y : V) (n k : Int) (fss : List (List Int)) (ns : List Int), vs = [x, y] ∧ Stk K H x n k fss ∧ TupI K H y ns ∧ LotOk fss.length ns ∧ Tb Ps H ∧ ∀ H', Ext Ps H H' → Q .non H'
theorem ok_needLot {f c fR cR : Addr} {fd fdR : FuncData} {k : Nat} (D : Def K mg "need_lot" sNeedLot ["stack", "lot"] f fd c) (DR : Def K mg "is_rising" sRising ["thing", "many"] fR fdR cR) (GR : FnOk P w K mg base CX0 k fR fdR ["thing", "many"] (spRising K Ps))
    (ml : mg "len" = none) : FnOk P w K mg base CX0 (k + 1) f fd ["stack", "lot"] (spNeedLot K Ps) := by
  refine D.ok (k := k) scNeedLot (fun vs H Q E h => ?_) (fun A outer s H vs Q E hr h => ?_)
  · obtain ⟨x, y, n, kk, fss, ns, rfl, _⟩ := h
    rfl
  · obtain ⟨_, _, n, kk, fss, ns, rfl, ⟨a, fa, xs, rfl, h1, h2, h3⟩, ⟨b, rfl, hB⟩, L, ht, q⟩ := h
    have hlen := Paired.length h3
    have hl := L.len
    refine ⟨_, pss_one (ps_if (pt_not (pt_val (pcl DR GR hr (pa_cons (pv 1) (pa_cons (pe_callB (call_lenS (K := K) rfl) (by rfl) ml PySem.boot_len (pa_cons (pe_ix ix_tup (pv 0) pe_int (fun _ _ => rfl)) pa_nil)) pa_nil))))) (pss_one ps_never) pss_nil), ?_⟩
    refine ⟨.ref b, rfl, .ref a, rfl, a, _, 2, .ref fa, rfl, rfl, h1, at2, fa, xs, rfl, .inr h2, b, ns, (xs.length : Int), rfl, hB, ?_, L.ris, by omega, ht, fun H1 e1 => ⟨true, rfl, iteF (q _ e1)⟩⟩
    rw [hlen]
    exact L.bel
def spBeside (K : PySem.W.Frag) : Sp := fun vs H Q _ => ∃ (x y : V) (n k i : Int) (fss : List (List Int)) (ns : List Int), vs = [x, y, .int i] ∧ Stk K H x n k fss ∧ TupI K H y ns ∧ 0 ≤ i ∧ i < (fss.length : Int) ∧ i ∉ ns ∧ Q .non H
theorem ok_beside {f c fF cF : Addr} {fd fdF : FuncData} {k : Nat} (D : Def K mg "need_face_beside" sBeside ["stack", "lot", "number"] f fd c) (DF : Def K mg "need_face" sNeedFace ["stack", "number"] fF fdF cF) (GF : FnOk P w K mg base CX0 k fF fdF ["stack", "number"] (spNeedFace K)) :
    FnOk P w K mg base CX0 (k + 1) f fd ["stack", "lot", "number"] (spBeside K) := by
  refine D.ok (k := k) scBeside (fun vs H Q E h => ?_) (fun A outer s H vs Q E hr h => ?_)
  · obtain ⟨x, y, n, kk, i, fss, ns, rfl, _⟩ := h
    rfl
  · obtain ⟨x, _, n, kk, i, fss, ns, rfl, hS, ⟨b, rfl, hB⟩, i0, i1, hn, q⟩ := h
    refine ⟨_, pss_cons (ps_expr (pcl DF GF hr (pa_cons (pv 0) (pa_cons (pv 2) pa_nil)))) (pss_one (ps_if (pt_cmpR (show OpR _ _ (rIn K false) from op_in_seq) (pv 2) (pv 1) (by with_unfolding_all rfl)) (pss_one ps_never) pss_nil)), ?_⟩
    refine ⟨x, rfl, .int i, rfl, x, n, kk, i, fss, rfl, hS, i0, i1, .int i, rfl, .ref b, rfl, b, _, rfl, .inr hB, rfl, flat_ints ns, false, ?_, iteF q⟩
    refine congrArg V.bl ?_
    show inV (.int i) (ns.map V.int) = false
    rw [inV_ints]
    exact decide_eq_false hn
end
end Lf

set_option maxHeartbeats 1000000
namespace Lf
open PySem PySem.Spec PyProof.Rows L2 GxR GxA SrT
abbrev sMayLay : Stmt := topS 39
abbrev sBrought : Stmt := topS 40
abbrev sNewParts : Stmt := topS 41
theorem scMayLay : FnScope ["stack", "lot", "number"] ["stack", "lot", "number"] (defScope sMayLay) := ⟨rfl, rfl, rfl, by decide +kernel, rfl, by decide +kernel, by decide +kernel⟩
theorem scBrought : FnScope ["stack", "lot", "number"] ["stack", "lot", "number"] (defScope sBrought) := ⟨rfl, rfl, rfl, by decide +kernel, rfl, by decide +kernel, by decide +kernel⟩
theorem scNewParts : FnScope ["stack", "lot", "number", "laid", "part"] ["stack", "lot", "number"] (defScope sNewParts) := ⟨rfl, rfl, rfl, by decide +kernel, rfl, by decide +kernel, by decide +kernel⟩
section
variable {P : Program} {w : World} {K : PySem.W.Frag} {mg : Str → Option Value} {base : Heap} {Ps : Tbs} {H H' : Hp}
/-- a stack, a lot of it, the number of a face that is not in the lot -/
structure Ask (K : PySem.W.Frag) (Ps : Tbs) (H : Hp) (x y : V) (i : Int) (n k : Int) (fss : List (List Int)) (ns : List Int) : Prop where
  stk : Stk K H x n k fss
  ok : StkOk n k fss
  lot : TupI K H y ns
  lok : LotOk fss.length ns
  i0 : 0 ≤ i
  i1 : i < (fss.length : Int)
  out : i ∉ ns
  tb : Tb Ps H
theorem Ask.ext {x y : V} {i n k : Int} {fss : List (List Int)} {ns : List Int} (h : Ask K Ps H x y i n k fss ns) (e : Ext Ps H H') : Ask K Ps H' x y i n k fss ns := ⟨e.stk h.stk, h.ok, e.tupI h.lot, h.lok, h.i0, h.i1, h.out, e.tb⟩
/-- the face of the number -/
theorem Ask.face {x y : V} {i n k : Int} {fss : List (List Int)} {ns : List Int} (h : Ask K Ps H x y i n k fss ns) : ∃ fc, fss[i.toNat]? = some fc ∧ fc ∈ fss := by
  have hlt : i.toNat < fss.length := by
    have h0 := h.i0
    have h1 := h.i1
    omega
  exact ⟨_, List.getElem?_eq_getElem hlt, List.getElem_mem hlt⟩
/-! ### may_lay -/
def spMayLay (K : PySem.W.Frag) (Ps : Tbs) : Sp := fun vs H Q _ => ∃ (x y : V) (n k i : Int) (fss : List (List Int)) (ns fc : List Int), vs = [x, y, .int i] ∧ Ask K Ps H x y i n k fss ns ∧ fss[i.toNat]? = some fc ∧ ∀ H', Ext Ps H H' → Q (.bl (liesOn (facesAt fss ns) fc)) H'
variable {k : Nat} {f c fS cS fL cL fF cF fA cA fO cO : Addr} {fd fdS fdL fdF fdA fdO : FuncData}
theorem ok_mayLay (D : Def K mg "may_lay" sMayLay ["stack", "lot", "number"] f fd c) (DS : Def K mg "need_stack" sNeedStack ["stack"] fS fdS cS) (GS : FnOk P w K mg base CX0 k fS fdS ["stack"] (spNeedStack K Ps)) (DL : Def K mg "need_lot" sNeedLot ["stack", "lot"] fL fdL cL) (GL : FnOk P w K mg base CX0 k fL fdL ["stack", "lot"] (spNeedLot K Ps))
    (DF : Def K mg "need_face" sNeedFace ["stack", "number"] fF fdF cF) (GF : FnOk P w K mg base CX0 k fF fdF ["stack", "number"] (spNeedFace K)) (DA : Def K mg "faces_at" sFacesAt ["stack", "lot"] fA fdA cA) (GA : FnOk P w K mg base CX0 k fA fdA ["stack", "lot"] (spFacesAt K Ps))
    (DO : Def K mg "lies_on" sLies ["laid", "face"] fO fdO cO) (GO : FnOk P w K mg base CX0 k fO fdO ["laid", "face"] (spLies K Ps)) : FnOk P w K mg base CX0 (k + 1) f fd ["stack", "lot", "number"] (spMayLay K Ps) := by
  refine D.ok (k := k) scMayLay (fun vs H Q E h => ?_) (fun A outer s H vs Q E hr h => ?_)
  · obtain ⟨x, y, n, kk, i, fss, ns, fc, rfl, _⟩ := h
    rfl
  · obtain ⟨x, y, n, kk, i, fss, ns, fc, rfl, h0, hf, q⟩ := h
    refine ⟨_, pss_cons (ps_expr (pcl DS GS hr (pa_cons (pv 0) pa_nil))) (pss_cons (ps_expr (pcl DL GL hr (pa_cons (pv 0) (pa_cons (pv 1) pa_nil)))) (pss_cons (ps_expr (pcl DF GF hr (pa_cons (pv 0) (pa_cons (pv 2) pa_nil))))
      (pss_one (ps_ret (pe_and (pe_cmpR (show OpR _ _ (rIn K true) from op_notIn_seq) (pv 2) (pv 1) (by with_unfolding_all rfl)) (pe_one (pcl DO GO hr (pa_cons (pcl DA GA hr (pa_cons (pv 0) (pa_cons (pv 1) pa_nil))) (pa_cons (pe_ix ix_tup (pe_ix ix_tup (pv 0) pe_int (fun _ _ => rfl)) (pv 2) (fun _ _ => rfl)) pa_nil))))))))), ?_⟩
    refine ⟨x, rfl, x, n, kk, fss, rfl, h0.stk, h0.ok, h0.tb, fun H1 e1 => ?_⟩
    have a1 := h0.ext e1
    refine ⟨x, rfl, y, rfl, x, y, n, kk, fss, ns, rfl, a1.stk, a1.lot, a1.lok, a1.tb, fun H2 e2 => ?_⟩
    have a2 := a1.ext e2
    refine ⟨x, rfl, .int i, rfl, x, n, kk, i, fss, rfl, a2.stk, a2.i0, a2.i1, ?_⟩
    obtain ⟨b, rfl, hB⟩ := id a2.lot
    refine ⟨.int i, rfl, .ref b, rfl, b, _, rfl, .inr hB, rfl, flat_ints ns, true, ?_, iteT ?_⟩
    · refine congrArg V.bl ?_
      show (!inV (.int i) (ns.map V.int)) = true
      rw [inV_ints, decide_eq_false a2.out]
      rfl
    refine ⟨x, rfl, .ref b, rfl, x, .ref b, n, kk, fss, ns, rfl, a2.stk, a2.lot, a2.lok.bel, a2.lok.len, a2.tb, fun v H3 e3 hv => ?_⟩
    obtain ⟨a, fa, xs, rfl, h1, h2, h3⟩ := (a2.ext e3).stk
    obtain ⟨z, hz, hI⟩ := paired_get' h3 hf
    have h4 := h0.ok.len4 fc (List.mem_of_getElem? hf)
    exact ⟨.ref a, rfl, a, _, 2, .ref fa, rfl, rfl, h1, at2, .int i, rfl, fa, xs, i, z, rfl, rfl, h2, atI_int h0.i0 hz, v, z, _, fc, rfl, hv, hI, by omega, e3.tb, fun H4 e4 => q _ (e1.trans (e2.trans (e3.trans e4)))⟩
/-! ### brought -/
def spBrought (K : PySem.W.Frag) (Ps : Tbs) : Sp := fun vs H Q _ => ∃ (x y : V) (n k i : Int) (fss : List (List Int)) (ns fc : List Int), vs = [x, y, .int i] ∧ Ask K Ps H x y i n k fss ns ∧ fss[i.toNat]? = some fc ∧ ∀ v H', Ext Ps H H' → TupI K H' v (brOn (facesAt fss ns) fc) → Q v H'
theorem ok_brought (D : Def K mg "brought" sBrought ["stack", "lot", "number"] f fd c) (DS : Def K mg "need_stack" sNeedStack ["stack"] fS fdS cS) (GS : FnOk P w K mg base CX0 k fS fdS ["stack"] (spNeedStack K Ps)) (DL : Def K mg "need_lot" sNeedLot ["stack", "lot"] fL fdL cL) (GL : FnOk P w K mg base CX0 k fL fdL ["stack", "lot"] (spNeedLot K Ps))
    (DF : Def K mg "need_face_beside" sBeside ["stack", "lot", "number"] fF fdF cF) (GF : FnOk P w K mg base CX0 k fF fdF ["stack", "lot", "number"] (spBeside K)) (DA : Def K mg "faces_at" sFacesAt ["stack", "lot"] fA fdA cA) (GA : FnOk P w K mg base CX0 k fA fdA ["stack", "lot"] (spFacesAt K Ps))
    (DO : Def K mg "brought_on" sBrOn ["laid", "face"] fO fdO cO) (GO : FnOk P w K mg base CX0 k fO fdO ["laid", "face"] (spBrOn K Ps)) : FnOk P w K mg base CX0 (k + 1) f fd ["stack", "lot", "number"] (spBrought K Ps) := by
  refine D.ok (k := k) scBrought (fun vs H Q E h => ?_) (fun A outer s H vs Q E hr h => ?_)
  · obtain ⟨x, y, n, kk, i, fss, ns, fc, rfl, _⟩ := h
    rfl
  · obtain ⟨x, y, n, kk, i, fss, ns, fc, rfl, h0, hf, q⟩ := h
    refine ⟨_, pss_cons (ps_expr (pcl DS GS hr (pa_cons (pv 0) pa_nil))) (pss_cons (ps_expr (pcl DL GL hr (pa_cons (pv 0) (pa_cons (pv 1) pa_nil)))) (pss_cons (ps_expr (pcl DF GF hr (pa_cons (pv 0) (pa_cons (pv 1) (pa_cons (pv 2) pa_nil)))))
      (pss_one (ps_ret (pcl DO GO hr (pa_cons (pcl DA GA hr (pa_cons (pv 0) (pa_cons (pv 1) pa_nil))) (pa_cons (pe_ix ix_tup (pe_ix ix_tup (pv 0) pe_int (fun _ _ => rfl)) (pv 2) (fun _ _ => rfl)) pa_nil))))))), ?_⟩
    refine ⟨x, rfl, x, n, kk, fss, rfl, h0.stk, h0.ok, h0.tb, fun H1 e1 => ?_⟩
    have a1 := h0.ext e1
    refine ⟨x, rfl, y, rfl, x, y, n, kk, fss, ns, rfl, a1.stk, a1.lot, a1.lok, a1.tb, fun H2 e2 => ?_⟩
    have a2 := a1.ext e2
    refine ⟨x, rfl, y, rfl, .int i, rfl, x, y, n, kk, i, fss, ns, rfl, a2.stk, a2.lot, a2.i0, a2.i1, a2.out, ?_⟩
    refine ⟨x, rfl, y, rfl, x, y, n, kk, fss, ns, rfl, a2.stk, a2.lot, a2.lok.bel, a2.lok.len, a2.tb, fun v H3 e3 hv => ?_⟩
    obtain ⟨a, fa, xs, rfl, h1, h2, h3⟩ := (a2.ext e3).stk
    obtain ⟨z, hz, hI⟩ := paired_get' h3 hf
    have h4 := h0.ok.len4 fc (List.mem_of_getElem? hf)
    exact ⟨.ref a, rfl, a, _, 2, .ref fa, rfl, rfl, h1, at2, .int i, rfl, fa, xs, i, z, rfl, rfl, h2, atI_int h0.i0 hz, v, z, _, fc, rfl, hv, hI, by omega, e3.tb, fun u H4 e4 hu => q _ _ (e1.trans (e2.trans (e3.trans e4))) hu⟩
/-! ### new_parts -/
def newParts (laid : List (List Int)) (fc : List Int) : List (List Int) := (sortL (subsL fc)).filter fun p => !inSome p laid
def spNewParts (K : PySem.W.Frag) (Ps : Tbs) : Sp := fun vs H Q _ => ∃ (x y : V) (n k i : Int) (fss : List (List Int)) (ns fc : List Int), vs = [x, y, .int i] ∧ Ask K Ps H x y i n k fss ns ∧ fss[i.toNat]? = some fc ∧ ∀ v H', Ext Ps H H' → LstT K H' v (newParts (facesAt fss ns) fc) → Q v H'
/-- a list of new tuples of ints -/
def LstH (H : Hp) (v : V) (fss : List (List Int)) : Prop := ∃ (l : Addr) (xs : List V), v = .ref l ∧ H l = some (.lst xs) ∧ Paired (TupH H) xs fss
theorem LstH.lst {v : V} {fss : List (List Int)} (h : LstH H v fss) : LstT K H v fss := let ⟨l, xs, h1, h2, h3⟩ := h; ⟨l, xs, h1, .inl (.inl h2), L2.Paired.mapP h3 fun _ _ z => z.tup⟩
theorem lstH_ext {v : V} {fss : List (List Int)} (e : Ext Ps H H') (h : LstH H v fss) : LstH H' v fss := let ⟨l, xs, h1, h2, h3⟩ := h; ⟨l, xs, h1, e.lst h2, L2.Paired.mapP h3 fun _ _ z => tupH_ext e z⟩
def spNewPartsH (K : PySem.W.Frag) (Ps : Tbs) : Sp := fun vs H Q _ => ∃ (x y : V) (n k i : Int) (fss : List (List Int)) (ns fc : List Int), vs = [x, y, .int i] ∧ Ask K Ps H x y i n k fss ns ∧ fss[i.toNat]? = some fc ∧ ∀ v H', Ext Ps H H' → LstH H' v (newParts (facesAt fss ns) fc) → Q v H'
theorem ok_newPartsH {fI cI : Addr} {fdI : FuncData} (D : Def K mg "new_parts" sNewParts ["stack", "lot", "number"] f fd c) (DS : Def K mg "need_stack" sNeedStack ["stack"] fS fdS cS) (GS : FnOk P w K mg base CX0 k fS fdS ["stack"] (spNeedStack K Ps)) (DL : Def K mg "need_lot" sNeedLot ["stack", "lot"] fL fdL cL) (GL : FnOk P w K mg base CX0 k fL fdL ["stack", "lot"] (spNeedLot K Ps))
    (DF : Def K mg "need_face_beside" sBeside ["stack", "lot", "number"] fF fdF cF) (GF : FnOk P w K mg base CX0 k fF fdF ["stack", "lot", "number"] (spBeside K)) (DA : Def K mg "faces_at" sFacesAt ["stack", "lot"] fA fdA cA) (GA : FnOk P w K mg base CX0 k fA fdA ["stack", "lot"] (spFacesAt K Ps))
    (DO : Def K mg "parts_in" sParts ["face"] fO fdO cO) (GO : FnOk P w K mg base CX0 k fO fdO ["face"] (spPartsH K Ps)) (DI : Def K mg "in_some" sInSome ["points", "faces"] fI fdI cI) (GI : FnOk P w K mg base CX0 k fI fdI ["points", "faces"] (spInSome K Ps)) : FnOk P w K mg base CX0 (k + 1) f fd ["stack", "lot", "number"] (spNewPartsH K Ps) := by
  refine D.ok (k := k) scNewParts (fun vs H Q E h => ?_) (fun A outer s H vs Q E hr h => ?_)
  · obtain ⟨x, y, n, kk, i, fss, ns, fc, rfl, _⟩ := h
    rfl
  · obtain ⟨x, y, n, kk, i, fss, ns, fc, rfl, h0, hf, q⟩ := h
    refine ⟨_, pss_cons (ps_expr (pcl DS GS hr (pa_cons (pv 0) pa_nil))) (pss_cons (ps_expr (pcl DL GL hr (pa_cons (pv 0) (pa_cons (pv 1) pa_nil)))) (pss_cons (ps_expr (pcl DF GF hr (pa_cons (pv 0) (pa_cons (pv 1) (pa_cons (pv 2) pa_nil)))))
      (pss_cons (ps_set (i := 3) scNewParts.nd rfl (.inr rfl) (pcl DA GA hr (pa_cons (pv 0) (pa_cons (pv 1) pa_nil))))
      (pss_one (ps_ret (pe_lc (own := [("part", 4)]) (g := gName 4) (by rfl) scNewParts.nd (pi_list (pcl DO GO hr (pa_cons (pe_ix ix_tup (pe_ix ix_tup (pv 0) pe_int (fun _ _ => rfl)) (pv 2) (fun _ _ => rfl)) pa_nil))) (blkOk_by (N := ["stack", "lot", "number", "laid", "part"]) (sc := defScope sNewParts) (by decide +kernel))
        (fun _ _ _ _ _ => pg_name (i := 4) scNewParts.nd rfl (Or.inl rfl)) (fun _ _ _ _ _ => pts_one (pt_not (pt_val (pcl DI GI hr (pa_cons (pv 4) (pa_cons (pv 3) pa_nil)))))) (fun _ _ _ _ _ => pv 4))))))), ?_⟩
    refine ⟨x, rfl, x, n, kk, fss, rfl, h0.stk, h0.ok, h0.tb, fun H1 e1 => ?_⟩
    have a1 := h0.ext e1
    refine ⟨x, rfl, y, rfl, x, y, n, kk, fss, ns, rfl, a1.stk, a1.lot, a1.lok, a1.tb, fun H2 e2 => ?_⟩
    have a2 := a1.ext e2
    refine ⟨x, rfl, y, rfl, .int i, rfl, x, y, n, kk, i, fss, ns, rfl, a2.stk, a2.lot, a2.i0, a2.i1, a2.out, ?_⟩
    refine ⟨x, rfl, y, rfl, x, y, n, kk, fss, ns, rfl, a2.stk, a2.lot, a2.lok.bel, a2.lok.len, a2.tb, fun v H3 e3 hv => ?_⟩
    have a3 := a2.ext e3
    obtain ⟨a, fa, xs, rfl, h1, h2, h3⟩ := id a3.stk
    obtain ⟨z, hz, hI⟩ := paired_get' h3 hf
    have h4 := h0.ok.len4 fc (List.mem_of_getElem? hf)
    have h16 := subs_le h4 fc.length
    rw [List.take_length] at h16
    refine ⟨.ref a, rfl, a, _, 2, .ref fa, rfl, rfl, h1, at2, .int i, rfl, fa, xs, i, z, rfl, rfl, h2, atI_int h0.i0 hz, z, fc, rfl, hI, h4, e3.tb, fun l ys H4 e4 _ hl hp => ⟨l, rfl, ⟨_, .inl (.inl hl)⟩, fun D0 hD => ?_⟩⟩
    obtain ⟨lv, lxs, rfl, hl1, hl2⟩ := e4.lstT hv
    have hys : ys.length ≤ 16 := by
      rw [Paired.length hp, (sortL_perm _).length_eq]
      exact h16
    refine lc_list (K := K) (a := l) (xs := ys) (fun j H5 => CP Ps TupH H4 D0 (((sortL (subsL fc)).take j).filter fun p => !inSome p (facesAt fss ns)) j H5) (CP.start e4.tb hD) (fun j H5 _ p => p.ext.sqL (.inl (.inl hl))) (fun j g H5 hg p => ?_) (fun H5 p => ?_)
    · obtain ⟨pt, hpt, hIg⟩ := paired_get hp hg
      have hj : j < ys.length := (List.getElem?_eq_some_iff.mp hg).1
      refine ⟨rfl, g, rfl, .ref lv, rfl, g, lv, lxs, pt, _, rfl, (tupH_ext p.ext hIg).tup, p.ext.sqL hl1, p.ext.tups hl2, p.ext.tb, fun H6 e6 => ⟨_, rfl, ?_⟩⟩
      have p6 := p.skip (stbH (K := K)) e6
      have hft := filt_take (fun p => !inSome p (facesAt fss ns)) hpt
      refine ite2 (fun hc => ?_) (fun hc => ?_)
      · refine ⟨g, rfl, ?_⟩
        have r := CP.put (stbH (K := K)) hD (by omega) p6 (tupH_ext e6 (tupH_ext p.ext hIg))
        rw [if_pos hc] at hft
        rw [hft]
        exact r
      · rw [if_neg hc, List.append_nil] at hft
        rw [hft]
        exact p6.mono (Nat.le_succ j)
    · obtain ⟨zs, g1, g2, g3⟩ := p.at_
      rw [Paired.length hp, List.take_length] at g2
      exact q (.ref D0) H5 (e1.trans (e2.trans (e3.trans (e4.trans p.ext)))) ⟨D0, zs, rfl, g1, g2⟩
theorem ok_newParts {fI cI : Addr} {fdI : FuncData} (D : Def K mg "new_parts" sNewParts ["stack", "lot", "number"] f fd c) (DS : Def K mg "need_stack" sNeedStack ["stack"] fS fdS cS) (GS : FnOk P w K mg base CX0 k fS fdS ["stack"] (spNeedStack K Ps)) (DL : Def K mg "need_lot" sNeedLot ["stack", "lot"] fL fdL cL) (GL : FnOk P w K mg base CX0 k fL fdL ["stack", "lot"] (spNeedLot K Ps))
    (DF : Def K mg "need_face_beside" sBeside ["stack", "lot", "number"] fF fdF cF) (GF : FnOk P w K mg base CX0 k fF fdF ["stack", "lot", "number"] (spBeside K)) (DA : Def K mg "faces_at" sFacesAt ["stack", "lot"] fA fdA cA) (GA : FnOk P w K mg base CX0 k fA fdA ["stack", "lot"] (spFacesAt K Ps))
    (DO : Def K mg "parts_in" sParts ["face"] fO fdO cO) (GO : FnOk P w K mg base CX0 k fO fdO ["face"] (spPartsH K Ps)) (DI : Def K mg "in_some" sInSome ["points", "faces"] fI fdI cI) (GI : FnOk P w K mg base CX0 k fI fdI ["points", "faces"] (spInSome K Ps)) : FnOk P w K mg base CX0 (k + 1) f fd ["stack", "lot", "number"] (spNewParts K Ps) :=
  (ok_newPartsH D DS GS DL GL DF GF DA GA DO GO DI GI).imp fun vs H Q E ⟨x, y, n, k, i, fss, ns, fc, h1, h2, h3, q⟩ => ⟨x, y, n, k, i, fss, ns, fc, h1, h2, h3, fun v H' e z => q v H' e z.lst⟩
end
end Lf

set_option maxHeartbeats 1000000
namespace Lf
open PySem PySem.Spec PyProof.Rows L2 GxR GxA SrT
abbrev sCell : Stmt := topS 46
abbrev sPen : Stmt := topS 47
abbrev sDraw : Stmt := topS 48
theorem scCell : FnScope ["_law_script", "_law_k"] ["_law_script", "_law_k"] (defScope sCell) := ⟨rfl, rfl, rfl, by decide +kernel, rfl, by decide +kernel, by decide +kernel⟩
theorem scPen : FnScope ["_law_cell_here"] ["_law_cell_here"] (defScope sPen) := ⟨rfl, rfl, rfl, by decide +kernel, rfl, by decide +kernel, by decide +kernel⟩
theorem scDraw : FnScope ["_law_pen_here", "_law_many", "_law_found"] ["_law_pen_here", "_law_many"] (defScope sDraw) := ⟨rfl, rfl, rfl, by decide +kernel, rfl, by decide +kernel, by decide +kernel⟩
/-- a pen: two ints -/
def Pen (H : Hp) (a : Addr) : Prop := ∃ x f : Int, H a = some (.lst [.int x, .int f])
/-- all is kept but the pen, which stays one -/
structure Epn (Ps : Tbs) (a : Addr) (H H' : Hp) : Prop where
  tb : Tb Ps H'
  old : ∀ b o, b ≠ a → H b = some o → (∀ q, o ≠ .tbl q) → H' b = some o
  there : ∀ b o, H b = some o → ∃ o', H' b = some o'
  p0 : Pen H a
  pen : Pen H' a
section
variable {Ps : Tbs} {a : Addr} {H H1 H2 H' : Hp} {K : PySem.W.Frag}
theorem Ext.epn (e : Ext Ps H H') (p : Pen H a) : Epn Ps a H H' := ⟨e.tb, fun b o _ q n => e.old b o q n, e.there, p, let ⟨x, f, h⟩ := p; ⟨x, f, e.lst h⟩⟩
theorem Epn.trans (x : Epn Ps a H H1) (y : Epn Ps a H1 H2) : Epn Ps a H H2 := ⟨y.tb, fun b o n e q => y.old b o n (x.old b o n e q) q, fun b o e => let ⟨o', e'⟩ := x.there b o e; y.there b o' e', x.p0, y.pen⟩
theorem Epn.refl (h : Tb Ps H) (p : Pen H a) : Epn Ps a H H := (Ext.refl h).epn p
theorem Epn.draw (h : Tb Ps H) (p : Pen H a) {x f : Int} : Epn Ps a H (upd H a (.lst [.int x, .int f])) := by
  obtain ⟨x0, f0, e0⟩ := id p
  refine ⟨h.put e0 (fun q z => by cases z) (fun q z => by unfold LamX.CodeO at z; cases z), fun b o n e _ => by rw [upd_ne n]; exact e, fun b o e => ?_, p, x, f, upd_same⟩
  by_cases hb : b = a
  · rw [hb]
    exact ⟨_, upd_same⟩
  · rw [upd_ne hb]
    exact ⟨o, e⟩
theorem Epn.sqT (e : Epn Ps a H H') {t : Addr} {xs : List V} (h : SqT K H t xs) : SqT K H' t xs := by
  obtain ⟨x0, f0, e0⟩ := e.p0
  rcases h with (h | ⟨o, h⟩) | h
  · exact .inl (.inl (e.old _ _ (ne_of h e0 (by intro z; cases z)) h (fun q z => by cases z)))
  · exact .inl (.inr ⟨o, e.old _ _ (ne_of h e0 (by intro z; cases z)) h (fun q z => by cases z)⟩)
  · exact .inr h
theorem Epn.tupI (e : Epn Ps a H H') {x : V} {ns : List Int} (h : TupI K H x ns) : TupI K H' x ns := let ⟨t, e1, e2⟩ := h; ⟨t, e1, e.sqT e2⟩
theorem Epn.tups (e : Epn Ps a H H') {xs : List V} {fss : List (List Int)} (h : Paired (TupI K H) xs fss) : Paired (TupI K H') xs fss := L2.Paired.mapP h fun _ _ z => e.tupI z
theorem Epn.stk (e : Epn Ps a H H') {v : V} {n k : Int} {fss : List (List Int)} (h : Stk K H v n k fss) : Stk K H' v n k fss := let ⟨a, fa, xs, h1, h2, h3, h4⟩ := h; ⟨a, fa, xs, h1, e.sqT h2, e.sqT h3, e.tups h4⟩
theorem Epn.lst (e : Epn Ps a H H') {l : Addr} {xs : List V} (n : l ≠ a) (h : H l = some (.lst xs)) : H' l = some (.lst xs) := e.old _ _ n h (fun q z => by cases z)
theorem Epn.sqL (e : Epn Ps a H H') {l : Addr} {xs : List V} (n : l ≠ a) (h : SqL K H l xs) : SqL K H' l xs := by
  rcases h with (h | ⟨o, h⟩) | h
  · exact .inl (.inl (e.lst n h))
  · exact .inl (.inr ⟨o, e.old _ _ n h (fun q z => by cases z)⟩)
  · exact .inr h
theorem Epn.free (e : Epn Ps a H H') {l : Addr} (h : H' l = none) : H l = none := by
  cases q : H l with
  | none => rfl
  | some o =>
    obtain ⟨o', z⟩ := e.there l o q
    rw [z] at h
    cases h
/-- an object that is ours is written -/
theorem Epn.write {p : Addr} {o o' : HO} (e : Epn Ps a H H') (n : H p = none) (hp : H' p = some o) (ho : ∀ q, o ≠ .tbl q) (hx : ∀ q, o ≠ LamX.CodeO p q := by intro q z; unfold LamX.CodeO at z; cases z) : Epn Ps a H (upd H' p o') := by
  have np : a ≠ p := by
    obtain ⟨x0, f0, e0⟩ := e.p0
    exact ne_of_none e0 n
  refine ⟨e.tb.put hp ho hx, fun b u nb q nt => ?_, fun b u q => ?_, e.p0, ?_⟩
  · rw [upd_ne (ne_of_none q n)]
    exact e.old _ _ nb q nt
  · rw [upd_ne (ne_of_none q n)]
    exact e.there _ _ q
  · obtain ⟨x, f, h⟩ := e.pen
    exact ⟨x, f, by rw [upd_ne np]; exact h⟩
end
section
variable {P : Program} {w : World} {K : PySem.W.Frag} {mg : Str → Option Value} {base : Heap} {Ps : Tbs} {H H' : Hp} {k : Nat} {f c : Addr} {fd : FuncData}
/-! ### _law_cell -/
def spCell (K : PySem.W.Frag) : Sp := fun vs H Q _ => ∃ (a : Addr) (ns : List Int), vs = [.ref a, .int 0] ∧ SqL K H a (ns.map V.int) ∧ ∀ z : Int, Q (.int z) H
theorem ok_cell (D : Def K mg "_law_cell" sCell ["_law_script", "_law_k"] f fd c) (ml : mg "len" = none) : FnOk P w K mg base CX0 (k + 1) f fd ["_law_script", "_law_k"] (spCell K) := by
  refine D.ok (k := k) scCell (fun vs H Q E h => ?_) (fun A outer s H vs Q E hr h => ?_)
  · obtain ⟨a, ns, rfl, _⟩ := h
    rfl
  · obtain ⟨a, ns, rfl, hS, q⟩ := h
    refine ⟨_, pss_cons (ps_if (pt_cmpR op_lt (pv 1) (pe_callB (call_lenS (K := K) rfl) (by rfl) ml PySem.boot_len (pa_cons (pv 0) pa_nil)) (nomark _)) (pss_one (ps_ret (pe_ix ix_list (pv 0) (pv 1) (fun _ _ => rfl)))) pss_nil) (pss_one (ps_ret pe_int)), ?_⟩
    refine ⟨.int 0, rfl, .ref a, rfl, a, _, rfl, .inl hS, 0, _, rfl, rfl, _, rfl, ite2 (fun e => ?_) (fun e => ?_)⟩
    · have e' : (0 : Int) < ((ns.map V.int).length : Int) := of_decide_eq_true e
      rw [List.length_map] at e'
      have h0 : 0 < ns.length := by omega
      exact ⟨.ref a, rfl, .int 0, rfl, a, _, 0, .int ns[0], rfl, rfl, hS, atI_nat (j := 0) (by rw [List.getElem?_map, List.getElem?_eq_getElem h0]; rfl), q _⟩
    · exact q 0
/-! ### _law_pen -/
def spPen (Ps : Tbs) : Sp := fun vs H Q _ => ∃ z : Int, vs = [.int z] ∧ Tb Ps H ∧ ∀ a H', Ext Ps H H' → H a = none → Pen H' a → Q (.ref a) H'
theorem ok_pen (D : Def K mg "_law_pen" sPen ["_law_cell_here"] f fd c) (mn : mg "int" = none) : FnOk P w K mg base CX0 (k + 1) f fd ["_law_cell_here"] (spPen Ps) := by
  refine D.ok (k := k) scPen (fun vs H Q E h => ?_) (fun A outer s H vs Q E hr h => ?_)
  · obtain ⟨z, rfl, _⟩ := h
    rfl
  · obtain ⟨z, rfl, ht, q⟩ := h
    refine ⟨_, pss_one (ps_ret (pe_lst (pa_cons (pv 0) (pa_cons (pe_callTy call_int1 (by rfl) mn (by decide +kernel) (pa_cons (pe_cmpR op_ge (pv 0) (pe_op op_pow pe_int pe_int) (nomark _)) pa_nil)) pa_nil)))), ?_⟩
    refine ⟨.int z, rfl, .int z, rfl, 10, 18, rfl, rfl, ⟨by decide, by decide, by decide⟩, z, _, rfl, rfl, .inr ⟨_, rfl, (by show 2 ≤ sizeLine; decide), fun l hl => ?_⟩⟩
    exact q l _ (Ext.new ht hl) hl ⟨_, _, upd_same⟩
/-! ### _law_draw -/
def spDraw : Sp := fun vs H Q _ => ∃ (a : Addr) (m : Int), vs = [.ref a, .int m] ∧ Pen H a ∧ 1 ≤ m ∧ m ≤ 1000000000000000000000 ∧ ∀ x f r : Int, 0 ≤ r → r < m → Q (.int r) (upd H a (.lst [.int x, .int f]))
theorem ok_draw (D : Def K mg "_law_draw" sDraw ["_law_pen_here", "_law_many"] f fd c) : FnOk P w K mg base CX0 (k + 1) f fd ["_law_pen_here", "_law_many"] spDraw := by
  refine D.ok (k := k) scDraw (fun vs H Q E h => ?_) (fun A outer s H vs Q E hr h => ?_)
  · obtain ⟨a, m, rfl, _⟩ := h
    rfl
  · obtain ⟨a, m, rfl, ⟨x, fl, hA⟩, m1, m2, q⟩ := h
    have s0 : SqL K H a [.int x, .int fl] := .inl (.inl hA)
    have g0 : ∀ {y z : Int}, atI [V.int y, V.int z] 0 = some (.int y) := atI_nat (j := 0) rfl
    have g1 : ∀ {y z : Int}, atI [V.int y, V.int z] 1 = some (.int z) := atI_nat (j := 1) rfl
    refine ⟨_, pss_cons (ps_if (pt_cmpR op_eq (pe_ix ix_list (pv 0) pe_int (fun _ _ => rfl)) pe_int (nomark _))
        (pss_cons (ps_set (i := 2) scDraw.nd rfl (.inl rfl) (pe_op op_mod (pe_ix ix_list (pv 0) pe_int (fun _ _ => rfl)) (pv 1)))
        (pss_cons (ps_asg (pe_op op_fdivW (pe_ix ix_list (pv 0) pe_int (fun _ _ => rfl)) (pv 1)) (pg_sub (pv 0) pe_int set_list)) (pss_one (ps_ret (pv 2))))) pss_nil)
      (pss_cons (ps_asg (pe_op op_mod (pe_op op_add (pe_op op_mul (pe_op op_mod (pe_ix ix_list (pv 0) pe_int (fun _ _ => rfl)) pe_int) pe_int) pe_int) pe_int) (pg_sub (pv 0) pe_int set_list))
      (pss_one (ps_ret (pe_op op_mod (pe_op op_fdiv (pe_op op_mod (pe_op op_add (pe_op op_mul (pe_ix ix_list (pv 0) pe_int (fun _ _ => rfl)) (pe_ix ix_list (pv 0) pe_int (fun _ _ => rfl))) (pe_op op_mul pe_int (pe_ix ix_list (pv 0) pe_int (fun _ _ => rfl)))) pe_int) pe_int) (pv 1))))), ?_⟩
    refine ⟨.ref a, rfl, a, _, 1, .int fl, rfl, rfl, s0, g1, rfl, _, rfl, ite2 (fun e => ?_) (fun e => ?_)⟩
    · refine ⟨.ref a, rfl, a, _, 0, .int x, rfl, rfl, s0, g0, .int m, rfl, x, m, rfl, rfl, by omega, ?_⟩
      refine ⟨.ref a, rfl, a, _, 0, .int x, rfl, rfl, s0, g0, .int m, rfl, x, m, rfl, rfl, ⟨by omega, Nat.lt_of_lt_of_le ((Nat.log2_lt (show m.natAbs ≠ 0 by omega)).mpr (show m.natAbs < 2 ^ 70 by omega)) (by decide)⟩, .ref a, rfl, a, _, 0, 0, rfl, rfl, hA, rfl, ?_⟩
      exact ⟨.int (x % m), rfl, q _ _ _ (Int.emod_nonneg _ (by omega)) (Int.emod_lt_of_pos _ (by omega))⟩
    · have b0 := Int.emod_nonneg x (show (2147483629 : Int) ≠ 0 by decide)
      have b1 := Int.emod_lt_of_pos x (show (0 : Int) < 2147483629 by decide)
      refine ⟨.ref a, rfl, a, _, 0, .int x, rfl, rfl, s0, g0, x, 2147483629, rfl, rfl, (by show (0 : Int) < 2147483629; decide), x % 2147483629, 48271, rfl, rfl, .inr ⟨by decide, by decide⟩, _, 11, rfl, rfl, _, 2147483629, rfl, rfl, (by show (0 : Int) < 2147483629; decide), .ref a, rfl, a, _, 0, 0, rfl, rfl, hA, rfl, ?_⟩
      have c0 := Int.emod_nonneg (x % 2147483629 * 48271 + 11) (show (2147483629 : Int) ≠ 0 by decide)
      have c1 := Int.emod_lt_of_pos (x % 2147483629 * 48271 + 11) (show (0 : Int) < 2147483629 by decide)
      have s1 : SqL K (upd H a (.lst [.int ((x % 2147483629 * 48271 + 11) % 2147483629), .int fl])) a [.int ((x % 2147483629 * 48271 + 11) % 2147483629), .int fl] := .inl (.inl upd_same)
      refine ⟨.ref a, rfl, a, _, 0, .int ((x % 2147483629 * 48271 + 11) % 2147483629), rfl, rfl, s1, g0, .ref a, rfl, a, _, 0, .int ((x % 2147483629 * 48271 + 11) % 2147483629), rfl, rfl, s1, g0, ((x % 2147483629 * 48271 + 11) % 2147483629), ((x % 2147483629 * 48271 + 11) % 2147483629), rfl, rfl, .inl ⟨by omega, by omega⟩, .ref a, rfl, a, _, 0, .int ((x % 2147483629 * 48271 + 11) % 2147483629), rfl, rfl, s1, g0, 40692, ((x % 2147483629 * 48271 + 11) % 2147483629), rfl, rfl, .inl ⟨by decide, by decide⟩, _, _, rfl, rfl,
        _, 2147483647, rfl, rfl, (by show (0 : Int) < 2147483647; decide), _, 8, rfl, rfl, ⟨by decide, by decide⟩, .int m, rfl, _, m, rfl, rfl, (by show (0 : Int) < m; omega), ?_⟩
      exact q _ _ _ (Int.emod_nonneg _ (by omega)) (Int.emod_lt_of_pos _ (by omega))
end
end Lf

set_option maxHeartbeats 1000000
namespace Lf
open PySem PySem.Spec PyProof.Rows L2 GxR GxA SrT
/-! ### data, compared -/
abbrev iD (ns : List Int) : List PyData := ns.map PyData.int
abbrev tD (ns : List Int) : PyData := .tuple (iD ns)
theorem lay_ints : ∀ ns : List Int, PyData.canLayAll0 (iD ns) = true
  | [] => by simp [PyData.canLayAll0]
  | n :: ns => by
    have := lay_ints ns
    simp [PyData.canLayAll0, PyData.canLay0, this]
theorem dep_ints : ∀ ns : List Int, PyData.depthAll (iD ns) = 0
  | [] => by simp [PyData.depthAll]
  | n :: ns => by
    have := dep_ints ns
    simp [PyData.depthAll, PyData.depth, this]
theorem lay_tups : ∀ fs : List (List Int), PyData.canLayAll0 (fs.map tD) = true
  | [] => by simp [PyData.canLayAll0]
  | n :: ns => by
    have := lay_tups ns
    simp [PyData.canLayAll0, PyData.canLay0, this, lay_ints]
theorem dep_tups : ∀ fs : List (List Int), PyData.depthAll (fs.map tD) ≤ 1
  | [] => by simp [PyData.depthAll]
  | n :: ns => by
    have := dep_tups ns
    simp [PyData.depthAll, PyData.depth, this, dep_ints]
theorem shp_list (ns : List Int) : SeqAt.shaped (.list (iD ns)) = true := by
  unfold SeqAt.shaped
  simp [PyData.canLay0, PyData.depth, lay_ints, dep_ints]
theorem shp_tup (ns : List Int) : SeqAt.shaped (tD ns) = true := by
  unfold SeqAt.shaped
  simp [PyData.canLay0, PyData.depth, lay_ints, dep_ints]
theorem shp_tups (fs : List (List Int)) : SeqAt.shaped (.list (fs.map tD)) = true := by
  unfold SeqAt.shaped
  have h1 := dep_tups fs
  have h2 : PyData.canLay0 (.list (fs.map tD)) = true := by
    rw [PyData.canLay0]
    exact lay_tups fs
  have h3 : PyData.depth (.list (fs.map tD)) = PyData.depthAll (fs.map tD) + 1 := by rw [PyData.depth]
  rw [h2, h3, Bool.true_and]
  exact decide_eq_true (by omega)
theorem eqv_ints : ∀ ns ms : List Int, PyData.eqvAll (iD ns) (iD ms) = decide (ns = ms)
  | [], [] => by simp [PyData.eqvAll]
  | [], m :: ms => by simp [PyData.eqvAll]
  | n :: ns, [] => by simp [PyData.eqvAll]
  | n :: ns, m :: ms => by
    have := eqv_ints ns ms
    simp only [List.map_cons, PyData.eqvAll, PyData.eqv, this]
    by_cases h : n = m
    · subst h
      simp
    · simp [h]
theorem eqv_tups : ∀ fs gs : List (List Int), PyData.eqvAll (fs.map tD) (gs.map tD) = decide (fs = gs)
  | [], [] => by simp [PyData.eqvAll]
  | [], m :: ms => by simp [PyData.eqvAll]
  | n :: ns, [] => by simp [PyData.eqvAll]
  | n :: ns, m :: ms => by
    have := eqv_tups ns ms
    simp only [List.map_cons, PyData.eqvAll, PyData.eqv, this, eqv_ints]
    by_cases h : n = m
    · subst h
      simp
    · simp [h]
section
variable {K : PySem.W.Frag} {H : Hp}
theorem dp_ints : ∀ ns : List Int, DpAll K H (ns.map V.int) (iD ns)
  | [] => .nil
  | n :: ns => .cons (.int n) (dp_ints ns)
theorem dp_tup {x : V} {ns : List Int} (h : TupI K H x ns) : Dp K H x (tD ns) := by
  obtain ⟨t, rfl, hs⟩ := h
  exact .tup hs (dp_ints ns)
theorem dp_tups : ∀ {xs : List V} {fs : List (List Int)}, Paired (TupI K H) xs fs → DpAll K H xs (fs.map tD)
  | _, _, .nil => .nil
  | _, _, .cons r t => .cons (dp_tup r) (dp_tups t)
theorem dp_lst {x : V} {fs : List (List Int)} (h : LstT K H x fs) : Dp K H x (.list (fs.map tD)) := by
  obtain ⟨l, xs, rfl, h1, h2⟩ := h
  exact .lst h1 (dp_tups h2)
end
/-! ### all faces: the mathematics -/
def growK (k : Nat) (l : List (List Int)) (p : Int) : List (List Int) := l ++ (l.filter fun g => decide (g.length < k)).map (· ++ [p])
def allK : Nat → Nat → List (List Int)
  | 0, _ => [[]]
  | n + 1, k => growK k (allK n k) n
def allF (n k : Nat) : List (List Int) := sortL ((allK n k).filter fun g => decide (g.length = k))
theorem allK_len : ∀ n k, (allK n k).length ≤ 2 ^ n
  | 0, _ => by simp [allK]
  | n + 1, k => by
    have h := allK_len n k
    show (growK k (allK n k) n).length ≤ _
    unfold growK
    rw [List.length_append, List.length_map, Nat.pow_succ]
    have := List.length_filter_le (fun g : List Int => decide (g.length < k)) (allK n k)
    omega
/-- rising, of points below n -/
def RisB (n : Nat) (g : List Int) : Prop := g.Pairwise (· < ·) ∧ ∀ i ∈ g, 0 ≤ i ∧ i < (n : Int)
theorem mem_allK : ∀ (n k : Nat) (g : List Int), g ∈ allK n k ↔ RisB n g ∧ g.length ≤ k
  | 0, k, g => by
    show g ∈ [[]] ↔ _
    rw [List.mem_singleton]
    constructor
    · rintro rfl
      exact ⟨⟨.nil, fun i hi => absurd hi (by simp)⟩, Nat.zero_le _⟩
    · rintro ⟨⟨_, h⟩, _⟩
      cases g with
      | nil => rfl
      | cons x r =>
        have := h x List.mem_cons_self
        omega
  | n + 1, k, g => by
    have ih := mem_allK n k
    show g ∈ growK k (allK n k) n ↔ _
    unfold growK
    rw [List.mem_append, List.mem_map]
    constructor
    · rintro (h | ⟨h, hm, rfl⟩)
      · obtain ⟨⟨h1, h2⟩, h3⟩ := (ih g).mp h
        exact ⟨⟨h1, fun i hi => let q := h2 i hi; ⟨q.1, by omega⟩⟩, h3⟩
      · obtain ⟨hm1, hm2⟩ := List.mem_filter.mp hm
        obtain ⟨⟨h1, h2⟩, h3⟩ := (ih h).mp hm1
        have h4 := of_decide_eq_true hm2
        refine ⟨⟨List.pairwise_append.mpr ⟨h1, List.pairwise_singleton _ _, fun a ha b hb => ?_⟩, fun i hi => ?_⟩, ?_⟩
        · rw [List.mem_singleton.mp hb]
          exact (h2 a ha).2
        · rcases List.mem_append.mp hi with q | q
          · have := h2 i q
            omega
          · rw [List.mem_singleton.mp q]
            omega
        · rw [List.length_append, List.length_singleton]
          omega
    · rintro ⟨⟨h1, h2⟩, h3⟩
      rcases List.eq_nil_or_concat g with rfl | ⟨h, z, rfl⟩
      · exact .inl ((ih []).mpr ⟨⟨.nil, fun i hi => absurd hi (by simp)⟩, Nat.zero_le _⟩)
      · rw [List.concat_eq_append] at *
        obtain ⟨p1, p2, p3⟩ := List.pairwise_append.mp h1
        have hz := h2 z (List.mem_append_right _ (List.mem_singleton.mpr rfl))
        have hb : ∀ i ∈ h, 0 ≤ i ∧ i < z := fun i hi => ⟨(h2 i (List.mem_append_left _ hi)).1, p3 i hi z (List.mem_singleton.mpr rfl)⟩
        rw [List.length_append, List.length_singleton] at h3
        by_cases e : z = n
        · subst e
          refine .inr ⟨h, List.mem_filter.mpr ⟨(ih h).mpr ⟨⟨p1, hb⟩, by omega⟩, decide_eq_true (by omega)⟩, rfl⟩
        · refine .inl ((ih _).mpr ⟨⟨h1, fun i hi => ?_⟩, by rw [List.length_append, List.length_singleton]; exact h3⟩)
          have hi2 := h2 i hi
          rcases List.mem_append.mp hi with q | q
          · have := hb i q
            omega
          · rw [List.mem_singleton.mp q]
            omega
theorem nodup_allK : ∀ n k, (allK n k).Nodup
  | 0, _ => by
    show ([[]] : List (List Int)).Nodup
    simp
  | n + 1, k => by
    have ih := nodup_allK n k
    show (growK k (allK n k) n).Nodup
    unfold growK
    refine List.nodup_append.mpr ⟨ih, ?_, fun a ha b hb e => ?_⟩
    · refine List.Pairwise.map _ (fun a b hab e => ?_) (ih.filter _)
      exact hab (List.append_cancel_right e)
    · obtain ⟨h, _, rfl⟩ := List.mem_map.mp hb
      have := ((mem_allK n k a).mp ha).1.2 n (by rw [e]; exact List.mem_append_right _ (List.mem_singleton.mpr rfl))
      omega
theorem mem_allF {n k : Nat} {g : List Int} : g ∈ allF n k ↔ RisB n g ∧ g.length = k := by
  unfold allF
  rw [(sortL_perm _).mem_iff, List.mem_filter, mem_allK, decide_eq_true_eq]
  constructor
  · rintro ⟨⟨h, _⟩, h2⟩
    exact ⟨h, h2⟩
  · rintro ⟨h, h2⟩
    exact ⟨⟨h, by omega⟩, h2⟩
theorem nodup_allF (n k : Nat) : (allF n k).Nodup := by
  unfold allF
  exact (sortL_perm _).nodup_iff.mpr ((nodup_allK n k).filter _)
theorem allF_len (n k : Nat) : (allF n k).length ≤ 2 ^ n := by
  unfold allF
  rw [(sortL_perm _).length_eq]
  exact Nat.le_trans (List.length_filter_le _ _) (allK_len n k)
theorem allF_ne {n k : Nat} (h : k ≤ n) : 0 < (allF n k).length := by
  have hm : (List.range k).map (fun i : Nat => (i : Int)) ∈ allF n k := by
    refine mem_allF.mpr ⟨⟨?_, fun i hi => ?_⟩, by simp⟩
    · refine List.Pairwise.map _ (fun a b hab => ?_) List.pairwise_lt_range
      omega
    · obtain ⟨j, hj, rfl⟩ := List.mem_map.mp hi
      have := List.mem_range.mp hj
      omega
  exact List.length_pos_of_mem hm
abbrev sAll : Stmt := topS 49
theorem scAll : FnScope ["_law_n", "_law_k", "_law_found", "_law_point", "_law_one"] ["_law_n", "_law_k"] (defScope sAll) := ⟨rfl, rfl, rfl, by decide +kernel, rfl, by decide +kernel, by decide +kernel⟩
section
variable {P : Program} {w : World} {K : PySem.W.Frag} {mg : Str → Option Value} {base : Heap} {Ps : Tbs} {H H' : Hp} {k : Nat} {f c : Addr} {fd : FuncData}
def spAll (K : PySem.W.Frag) (Ps : Tbs) : Sp := fun vs H Q _ => ∃ n kk : Nat, vs = [.int n, .int kk] ∧ n ≤ 8 ∧ kk ≤ 8 ∧ Tb Ps H ∧ ∀ l ys H', Ext Ps H H' → H l = none → H' l = some (.lst ys) → Paired (TupI K H') ys (allF n kk) → Q (.ref l) H'
theorem fm_take {α β : Type} (p : α → Bool) (g : α → β) {l : List α} {i : Nat} {y : α} (h : l[i]? = some y) : ((l.take (i + 1)).filter p).map g = ((l.take i).filter p).map g ++ (if p y = true then [g y] else []) := by
  rw [filt_take p h, List.map_append]
  cases hp : p y <;> simp
theorem ok_all (D : Def K mg "_law_all" sAll ["_law_n", "_law_k"] f fd c) (mr : mg "range" = none) (ml : mg "len" = none) (ms : mg "sorted" = none) : FnOk P w K mg base CX0 (k + 1) f fd ["_law_n", "_law_k"] (spAll K Ps) := by
  refine D.ok (k := k) scAll (fun vs H Q E h => ?_) (fun A outer s H vs Q E hr h => ?_)
  · obtain ⟨n, kk, rfl, _⟩ := h
    rfl
  · obtain ⟨n, kk, rfl, hn, hk, ht, q⟩ := h
    refine ⟨_, pss_cons (ps_set (i := 2) scAll.nd rfl (.inl rfl) (pe_lst (pa_cons (pe_tup pa_nil) pa_nil)))
      (pss_cons (ps_for PassesOwn.never rfl (pi_range1 (by rfl) mr (pa_cons (pv 0) pa_nil)) (pg_name (i := 3) scAll.nd rfl (.inr rfl))
        (pss_one (ps_set (i := 2) scAll.nd rfl (.inl rfl) (pe_op op_cat (pv 2) (pe_lc (own := [("_law_one", 4)]) (g := gName 4) (by rfl) scAll.nd (pi_list (pv 2)) (blkOk_by (N := ["_law_n", "_law_k", "_law_found", "_law_point", "_law_one"]) (sc := defScope sAll) (by decide +kernel))
          (fun _ _ _ _ _ => pg_name (i := 4) scAll.nd rfl (Or.inl rfl)) (fun _ _ _ _ _ => pts_one (pt_cmpR op_lt (pe_callB (call_lenS (K := K) rfl) (by rfl) ml PySem.boot_len (pa_cons (pv 4) pa_nil)) (pv 1) (nomark _)))
          (fun _ _ _ _ _ => pe_op (show OpR _ _ (rCatA K) from op_catA) (pv 4) (pe_tup (pa_cons (pv 3) pa_nil))))))))
      (pss_one (ps_ret (pe_callB (cr_sortL hr.units) (by rfl) ms (by decide +kernel) (pa_cons (pe_lc (own := [("_law_one", 4)]) (g := gName 4) (by rfl) scAll.nd (pi_list (pv 2)) (blkOk_by (N := ["_law_n", "_law_k", "_law_found", "_law_point", "_law_one"]) (sc := defScope sAll) (by decide +kernel))
          (fun _ _ _ _ _ => pg_name (i := 4) scAll.nd rfl (Or.inl rfl)) (fun _ _ _ _ _ => pts_one (pt_cmpR op_eq (pe_callB (call_lenS (K := K) rfl) (by rfl) ml PySem.boot_len (pa_cons (pv 4) pa_nil)) (pv 1) (nomark _))) (fun _ _ _ _ _ => pv 4)) pa_nil))))), ?_⟩
    refine ⟨Nat.zero_le _, fun e he => ⟨(by show 1 ≤ sizeLine; decide), fun l0 hl0 => ?_⟩⟩
    have x1 : Ext Ps H (upd H e (.tup [])) := Ext.new ht he
    have x2 := x1.trans (Ext.new (o := .lst [.ref e]) x1.tb hl0)
    have hsm : ∀ i, i ≤ 8 → (allK i kk).length ≤ 256 := fun i hi => Nat.le_trans (allK_len i kk) (Nat.pow_le_pow_right (by omega) hi)
    refine ⟨.int n, rfl, (n : Int), rfl, by omega, by omega, for_range (lo := 0) (n := (n : Int).toNat) (fun i σ H3 => Ext Ps H H3 ∧ ∃ (l : Addr) (ys : List V) (y3 y4 : Option V), σ = [some (.int n), some (.int kk), some (.ref l), y3, y4] ∧ H l = none ∧ H3 l = some (.lst ys) ∧ Paired (TupI K H3) ys (allK i kk)) ?_ (fun i σ H3 hi p => ?_) (fun σ H3 p => ?_)⟩
    · refine ⟨x2, l0, [.ref e], none, none, rfl, x1.free hl0, upd_same, .cons ⟨e, rfl, .inl (.inl ?_)⟩ .nil⟩
      rw [upd_ne (ne_of_none upd_same hl0)]
      exact upd_same
    · obtain ⟨x3, l, ys, y3, y4, rfl, hnl, h3, hp⟩ := p
      have hi8 : i ≤ 8 := by
        have : i < (n : Int).toNat := hi
        omega
      have h256 := hsm i hi8
      have hlen : ys.length ≤ 256 := by
        rw [Paired.length hp]
        exact h256
      refine ⟨.ref l, rfl, .ref l, rfl, l, rfl, ⟨_, .inl (.inl h3)⟩, fun D0 hD => lc_list (K := K) (a := l) (xs := ys) (fun j H4 => CP Ps (TupI K) H3 D0 ((((allK i kk).take j).filter fun g => decide (g.length < kk)).map (· ++ [(i : Int)])) j H4) (CP.start x3.tb hD) (fun j H4 _ p => p.ext.sqL (.inl (.inl h3))) (fun j z H4 hz p => ?_) (fun H4 p => ?_)⟩
      · obtain ⟨g, hg, t, rfl, hT⟩ := paired_get hp hz
        have hj : j < ys.length := (List.getElem?_eq_some_iff.mp hz).1
        have hT4 := p.ext.sqT hT
        refine ⟨rfl, .ref t, rfl, t, _, rfl, .inr hT4, .int kk, rfl, _, _, rfl, rfl, _, rfl, ?_⟩
        rw [List.length_map]
        have hft := fm_take (fun g : List Int => decide (g.length < kk)) (· ++ [(i : Int)]) hg
        refine ite2 (fun hc => ?_) (fun hc => ?_)
        · have hc' : g.length < kk := by
            have := of_decide_eq_true hc
            omega
          refine ⟨.ref t, rfl, .int (0 + i), rfl, (by show 1 ≤ sizeLine; decide), fun u hu => ?_⟩
          have x5 := Ext.new (o := .tup [.int (0 + i)]) p.ext.tb hu
          have p5 := p.skip (stbT (K := K)) x5
          have hgl : (g.map V.int).length + [V.int (0 + (i : Int))].length ≤ sizeLine := by
            rw [List.length_map, List.length_singleton]
            exact Nat.le_of_lt (small1000 (by omega))
          have fin : ∀ (v : V) (H6 : Hp), Ext Ps (upd H4 u (.tup [.int (0 + i)])) H6 → TupI K H6 v (g ++ [(i : Int)]) → ∃ acc, H6 D0 = some (.lst acc) ∧ acc.length < sizeLine ∧ CP Ps (TupI K) H3 D0 ((((allK i kk).take (j + 1)).filter fun g => decide (g.length < kk)).map (· ++ [(i : Int)])) (j + 1) (upd H6 D0 (.lst (acc ++ [v]))) := by
            intro v H6 x6 hv
            have r := CP.put (stbT (K := K)) hD (by omega) (p5.skip (stbT (K := K)) x6) hv
            rw [hft, if_pos (decide_eq_true hc')]
            exact r
          have e0 : [V.int (0 + (i : Int))] = ([(i : Int)]).map V.int := by simp
          refine ⟨t, u, _, _, rfl, rfl, x5.sqT hT4, .inl (.inl upd_same), hgl, fun hz => ?_, fun _ hz => absurd hz (by simp), fun _ _ p0 hp0 => ?_⟩
          · have hg0 : g = [] := by simpa using hz
            refine fin _ _ (Ext.refl x5.tb) ⟨u, rfl, ?_⟩
            rw [hg0, List.nil_append, ← e0]
            exact .inl (.inl upd_same)
          · refine fin _ _ (Ext.new x5.tb hp0) ⟨p0, rfl, ?_⟩
            rw [List.map_append, ← e0]
            exact .inl (.inl upd_same)
        · have hc' : ¬ decide (g.length < kk) = true := by
            intro z
            have := of_decide_eq_true z
            exact hc (decide_eq_true (by omega))
          rw [if_neg hc', List.append_nil] at hft
          rw [hft]
          exact p.mono (Nat.le_succ j)
      · obtain ⟨zs, h4, h5, h6⟩ := p.at_
        refine ⟨l, D0, ys, zs, rfl, rfl, p.ext.lst h3, h4, ?_, fun l2 hl2 => ?_⟩
        · exact Nat.le_of_lt (small1000 (by omega))
        · have x6 := Ext.new (o := .lst (ys ++ zs)) p.ext.tb hl2
          refine ⟨x3.trans (p.ext.trans x6), l2, ys ++ zs, some (.int (0 + i)), y4, rfl, (x3.trans p.ext).free hl2, upd_same, ?_⟩
          show Paired _ _ (growK kk (allK i kk) i)
          unfold growK
          have e0 : (allK i kk).take ys.length = allK i kk := by
            rw [Paired.length hp, List.take_length]
          rw [e0] at h5
          exact x6.tups (paired_app (p.ext.tups hp) h5)
    · obtain ⟨x3, l, ys, y3, y4, rfl, hnl, h3, hp⟩ := p
      rw [Int.toNat_natCast] at hp
      have h256 := hsm n hn
      have hlen : ys.length ≤ 256 := by
        rw [Paired.length hp]
        exact h256
      refine ⟨.ref l, rfl, l, rfl, ⟨_, .inl (.inl h3)⟩, fun D0 hD => lc_list (K := K) (a := l) (xs := ys) (fun j H4 => CP Ps (TupI K) H3 D0 (((allK n kk).take j).filter fun g => decide (g.length = kk)) j H4) (CP.start x3.tb hD) (fun j H4 _ p => p.ext.sqL (.inl (.inl h3))) (fun j z H4 hz p => ?_) (fun H4 p => ?_)⟩
      · obtain ⟨g, hg, t, rfl, hT⟩ := paired_get hp hz
        have hj : j < ys.length := (List.getElem?_eq_some_iff.mp hz).1
        have hT4 := p.ext.sqT hT
        refine ⟨rfl, .ref t, rfl, t, _, rfl, .inr hT4, .int kk, rfl, rfl, _, rfl, ?_⟩
        rw [List.length_map]
        have hft := filt_take (fun g : List Int => decide (g.length = kk)) hg
        refine ite2 (fun hc => ?_) (fun hc => ?_)
        · have hc' : g.length = kk := by
            have := V.int.inj (of_decide_eq_true hc)
            omega
          refine ⟨.ref t, rfl, ?_⟩
          have r := CP.put (stbT (K := K)) hD (by omega) p (show TupI K H4 (.ref t) g from ⟨t, rfl, hT4⟩)
          rw [hft, if_pos (decide_eq_true hc')]
          exact r
        · have hc' : ¬ decide (g.length = kk) = true := by
            intro z
            have := of_decide_eq_true z
            exact hc (decide_eq_true (by rw [this]))
          rw [if_neg hc', List.append_nil] at hft
          rw [hft]
          exact p.mono (Nat.le_succ j)
      · obtain ⟨zs, h4, h5, h6⟩ := p.at_
        rw [Paired.length hp, List.take_length] at h5
        refine ⟨D0, zs, _, rfl, .inl (.inl h4), h5, fun us u hz _ hu => ?_⟩
        have x4 := Ext.new (o := .lst us) p.ext.tb hu
        exact q u us _ (x3.trans (p.ext.trans x4)) ((x3.trans p.ext).free hu) upd_same (x4.tups hz)
end
end Lf

set_option maxHeartbeats 1000000
namespace Lf
open PySem PySem.Spec PyProof.Rows L2 GxR GxA SrT
abbrev sWithinL : Stmt := topS 51
abbrev sLot : Stmt := topS 52
abbrev sCommon : Stmt := topS 53
abbrev sMay : Stmt := topS 54
abbrev sAt : Stmt := topS 56
theorem scWithinL : FnScope ["_law_part", "_law_face", "_law_point"] ["_law_part", "_law_face"] (defScope sWithinL) := ⟨rfl, rfl, rfl, by decide +kernel, rfl, by decide +kernel, by decide +kernel⟩
theorem scLot : FnScope ["_law_pen_here", "_law_stack_here", "_law_few", "_law_at_here"] ["_law_pen_here", "_law_stack_here"] (defScope sLot) := ⟨rfl, rfl, rfl, by decide +kernel, rfl, by decide +kernel, by decide +kernel⟩
theorem scCommon : FnScope ["_law_one", "_law_other", "_law_point"] ["_law_one", "_law_other"] (defScope sCommon) := ⟨rfl, rfl, rfl, by decide +kernel, rfl, by decide +kernel, by decide +kernel⟩
theorem scMay : FnScope ["_law_k", "_law_faces", "_law_face", "_law_some", "_law_beside", "_law_own", "_law_one"] ["_law_k", "_law_faces", "_law_face"] (defScope sMay) := ⟨rfl, rfl, rfl, by decide +kernel, rfl, by decide +kernel, by decide +kernel⟩
theorem scAt : FnScope ["_law_stack_here", "_law_numbers", "_law_number"] ["_law_stack_here", "_law_numbers"] (defScope sAt) := ⟨rfl, rfl, rfl, by decide +kernel, rfl, by decide +kernel, by decide +kernel⟩
/-- a list or a tuple of ints -/
def SeqI (K : PySem.W.Frag) (H : Hp) (x : V) (ns : List Int) : Prop := ∃ a, x = .ref a ∧ (SqL K H a (ns.map V.int) ∨ SqT K H a (ns.map V.int))
/-- a list of ints -/
def LI (K : PySem.W.Frag) (H : Hp) (x : V) (ns : List Int) : Prop := ∃ a, x = .ref a ∧ SqL K H a (ns.map V.int)
section
variable {P : Program} {w : World} {K : PySem.W.Frag} {mg : Str → Option Value} {base : Heap} {Ps : Tbs} {H H' : Hp} {k : Nat} {f c : Addr} {fd : FuncData}
theorem Ext.seqI (e : Ext Ps H H') {x : V} {ns : List Int} (h : SeqI K H x ns) : SeqI K H' x ns := by
  obtain ⟨a, rfl, h⟩ := h
  exact ⟨a, rfl, h.elim (fun z => .inl (e.sqL z)) fun z => .inr (e.sqT z)⟩
theorem Ext.li (e : Ext Ps H H') {x : V} {ns : List Int} (h : LI K H x ns) : LI K H' x ns := let ⟨a, h1, h2⟩ := h; ⟨a, h1, e.sqL h2⟩
theorem TupI.seq {x : V} {ns : List Int} (h : TupI K H x ns) : SeqI K H x ns := let ⟨a, h1, h2⟩ := h; ⟨a, h1, .inr h2⟩
theorem LI.seq {x : V} {ns : List Int} (h : LI K H x ns) : SeqI K H x ns := let ⟨a, h1, h2⟩ := h; ⟨a, h1, .inl h2⟩
theorem hasAll_iff (fc pts : List Int) : hasAll fc pts = decide ((pts.filter fun p => !decide (p ∈ fc)) = []) := by
  unfold hasAll
  rw [Bool.eq_iff_iff, List.all_eq_true, decide_eq_true_eq, List.filter_eq_nil_iff]
  constructor
  · intro h a ha
    simpa using h a ha
  · intro h a ha
    simpa using h a ha
/-! ### _law_within -/
def spWithinL (K : PySem.W.Frag) (Ps : Tbs) : Sp := fun vs H Q _ => ∃ (x y : V) (pts fc : List Int), vs = [x, y] ∧ SeqI K H x pts ∧ SeqI K H y fc ∧ pts.length ≤ 100 ∧ Tb Ps H ∧ ∀ H', Ext Ps H H' → Q (.bl (hasAll fc pts)) H'
theorem ok_withinL (D : Def K mg "_law_within" sWithinL ["_law_part", "_law_face"] f fd c) : FnOk P w K mg base CX0 (k + 1) f fd ["_law_part", "_law_face"] (spWithinL K Ps) := by
  refine D.ok (k := k) scWithinL (fun vs H Q E h => ?_) (fun A outer s H vs Q E hr h => ?_)
  · obtain ⟨x, y, pts, fc, rfl, _⟩ := h
    rfl
  · obtain ⟨_, _, pts, fc, rfl, ⟨a, rfl, hA⟩, ⟨b, rfl, hB⟩, hl, ht, q⟩ := h
    have hB' : ∀ H3, Ext Ps H H3 → SqL K H3 b (fc.map V.int) ∨ SqT K H3 b (fc.map V.int) := fun H3 e => hB.elim (fun z => .inl (e.sqL z)) fun z => .inr (e.sqT z)
    have turn : ∀ (D0 : Addr), H D0 = none → ∀ (i : Nat) (y : Int) (H3 : Hp), pts[i]? = some y → CP Ps FI H D0 ((pts.take i).filter fun p => !decide (p ∈ fc)) i H3 →
        if (!inV (.int y) (fc.map V.int)) = true then ∃ acc, H3 D0 = some (.lst acc) ∧ acc.length < sizeLine ∧ CP Ps FI H D0 ((pts.take (i + 1)).filter fun p => !decide (p ∈ fc)) (i + 1) (upd H3 D0 (.lst (acc ++ [.int y]))) else CP Ps FI H D0 ((pts.take (i + 1)).filter fun p => !decide (p ∈ fc)) (i + 1) H3 := by
      intro D0 hD i y H3 hy p
      have hi : i < pts.length := (List.getElem?_eq_some_iff.mp hy).1
      rw [inV_ints]
      have hft := filt_take (fun p => !decide (p ∈ fc)) hy
      refine ite2 (fun hc => ?_) (fun hc => ?_)
      · have r := CP.put (stbI (K := K)) hD (by omega) p (show FI H3 (.int y) y from rfl)
        rw [if_pos hc] at hft
        rw [hft]
        exact r
      · rw [if_neg hc, List.append_nil] at hft
        rw [hft]
        exact p.mono (Nat.le_succ i)
    have fin : ∀ (D0 : Addr) (H3 : Hp), CP Ps FI H D0 ((pts.take (pts.map V.int).length).filter fun p => !decide (p ∈ fc)) (pts.map V.int).length H3 → ∀ l, H3 l = none → ∃ d e, Dp K (upd H3 l (.lst [])) (.ref D0) d ∧ Dp K (upd H3 l (.lst [])) (.ref l) e ∧ SeqAt.shaped d = true ∧ SeqAt.shaped e = true ∧ Q (.bl (PyData.eqv d e)) (upd H3 l (.lst [])) := by
      intro D0 H3 p l hl
      obtain ⟨ys, e1, e2, e3⟩ := p.at_
      rw [List.length_map, List.take_length] at e2
      have x4 := Ext.new (o := .lst []) p.ext.tb hl
      rw [paired_ints e2] at e1
      refine ⟨_, .list (iD []), .lst (.inl (.inl (x4.lst e1))) (dp_ints _), .lst (xs := []) (.inl (.inl upd_same)) .nil, shp_list _, shp_list [], ?_⟩
      have ev : PyData.eqv (.list (iD (pts.filter fun p => !decide (p ∈ fc)))) (.list (iD [])) = hasAll fc pts := by
        rw [PyData.eqv, eqv_ints, hasAll_iff]
      rw [ev]
      exact q _ (p.ext.trans x4)
    rcases hA with hA | hA
    · refine ⟨_, pss_one (ps_ret (pe_cmpR (op_eqD hr.units) (pe_lc (own := [("_law_point", 2)]) (g := gName 2) (by rfl) scWithinL.nd (pi_list (pv 0)) (blkOk_by (N := ["_law_part", "_law_face", "_law_point"]) (sc := defScope sWithinL) (by decide +kernel))
        (fun _ _ _ _ _ => pg_name (i := 2) scWithinL.nd rfl (Or.inl rfl)) (fun _ _ _ _ _ => pts_one (pt_cmpR (show OpR _ _ (rIn K true) from op_notIn_seq) (pv 2) (pv 1) (by with_unfolding_all rfl))) (fun _ _ _ _ _ => pv 2)) (pe_lst pa_nil) (nomark _))), ?_⟩
      refine ⟨.ref a, rfl, a, rfl, ⟨_, hA⟩, fun D0 hD => lc_list (K := K) (a := a) (xs := pts.map V.int) (fun i H3 => CP Ps FI H D0 ((pts.take i).filter fun p => !decide (p ∈ fc)) i H3) (CP.start ht hD) (fun i H3 _ p => p.ext.sqL hA) (fun i x H3 hx p => ?_) (fun H3 p => ⟨Nat.zero_le _, fun l hl => fin D0 H3 p l hl⟩)⟩
      obtain ⟨y, hy, rfl⟩ := map_int hx
      refine ⟨rfl, .int y, rfl, .ref b, rfl, b, _, rfl, hB' H3 p.ext, rfl, flat_ints fc, _, rfl, ?_⟩
      have t := turn D0 hD i y H3 hy p
      show if (!inV (.int y) (fc.map V.int)) = true then _ else _
      refine ite2 (fun hc => ?_) (fun hc => ?_)
      · rw [if_pos hc] at t
        exact ⟨.int y, rfl, t⟩
      · rw [if_neg hc] at t
        exact t
    · refine ⟨_, pss_one (ps_ret (pe_cmpR (op_eqD hr.units) (pe_lc (own := [("_law_point", 2)]) (g := gName 2) (by rfl) scWithinL.nd (pi_tup (pv 0)) (blkOk_by (N := ["_law_part", "_law_face", "_law_point"]) (sc := defScope sWithinL) (by decide +kernel))
        (fun _ _ _ _ _ => pg_name (i := 2) scWithinL.nd rfl (Or.inl rfl)) (fun _ _ _ _ _ => pts_one (pt_cmpR (show OpR _ _ (rIn K true) from op_notIn_seq) (pv 2) (pv 1) (by with_unfolding_all rfl))) (fun _ _ _ _ _ => pv 2)) (pe_lst pa_nil) (nomark _))), ?_⟩
      refine ⟨.ref a, rfl, a, rfl, ⟨_, hA⟩, fun D0 hD => lc_tup (K := K) (a := a) (xs := pts.map V.int) (fun i H3 => CP Ps FI H D0 ((pts.take i).filter fun p => !decide (p ∈ fc)) i H3) (CP.start ht hD) (fun i H3 _ p => p.ext.sqT hA) (fun i x H3 hx p => ?_) (fun H3 p => ⟨Nat.zero_le _, fun l hl => fin D0 H3 p l hl⟩)⟩
      obtain ⟨y, hy, rfl⟩ := map_int hx
      refine ⟨rfl, .int y, rfl, .ref b, rfl, b, _, rfl, hB' H3 p.ext, rfl, flat_ints fc, _, rfl, ?_⟩
      have t := turn D0 hD i y H3 hy p
      show if (!inV (.int y) (fc.map V.int)) = true then _ else _
      refine ite2 (fun hc => ?_) (fun hc => ?_)
      · rw [if_pos hc] at t
        exact ⟨.int y, rfl, t⟩
      · rw [if_neg hc] at t
        exact t
/-! ### _law_common -/
def spCommon (K : PySem.W.Frag) (Ps : Tbs) : Sp := fun vs H Q _ => ∃ (x y : V) (pts fc : List Int), vs = [x, y] ∧ TupI K H x pts ∧ TupI K H y fc ∧ pts.length ≤ 100 ∧ Tb Ps H ∧ ∀ (l : Addr) (ns : List Int) (H' : Hp), Ext Ps H H' → H l = none → ns.length ≤ 100 → H' l = some (.lst (ns.map V.int)) → Q (.ref l) H'
theorem ok_common (D : Def K mg "_law_common" sCommon ["_law_one", "_law_other"] f fd c) : FnOk P w K mg base CX0 (k + 1) f fd ["_law_one", "_law_other"] (spCommon K Ps) := by
  refine D.ok (k := k) scCommon (fun vs H Q E h => ?_) (fun A outer s H vs Q E hr h => ?_)
  · obtain ⟨x, y, pts, fc, rfl, _⟩ := h
    rfl
  · obtain ⟨_, _, pts, fc, rfl, ⟨a, rfl, hA⟩, ⟨b, rfl, hB⟩, hl, ht, q⟩ := h
    refine ⟨_, pss_one (ps_ret (pe_lc (own := [("_law_point", 2)]) (g := gName 2) (by rfl) scCommon.nd (pi_tup (pv 0)) (blkOk_by (N := ["_law_one", "_law_other", "_law_point"]) (sc := defScope sCommon) (by decide +kernel))
      (fun _ _ _ _ _ => pg_name (i := 2) scCommon.nd rfl (Or.inl rfl)) (fun _ _ _ _ _ => pts_one (pt_cmpR (show OpR _ _ (rIn K false) from op_in_seq) (pv 2) (pv 1) (by with_unfolding_all rfl))) (fun _ _ _ _ _ => pv 2))), ?_⟩
    refine ⟨.ref a, rfl, a, rfl, ⟨_, hA⟩, fun D0 hD => lc_tup (K := K) (a := a) (xs := pts.map V.int) (fun i H3 => ∃ ns : List Int, CP Ps FI H D0 ns i H3) ⟨[], CP.start ht hD⟩ (fun i H3 _ p => let ⟨_, z⟩ := p; z.ext.sqT hA) (fun i x H3 hx p => ?_) (fun H3 p => ?_)⟩
    · obtain ⟨y, hy, rfl⟩ := map_int hx
      obtain ⟨ns, p⟩ := p
      have hi : i < pts.length := (List.getElem?_eq_some_iff.mp hy).1
      refine ⟨rfl, .int y, rfl, .ref b, rfl, b, _, rfl, .inr (p.ext.sqT hB), rfl, flat_ints fc, _, rfl, ite2 (fun hc => ?_) (fun hc => ?_)⟩
      · obtain ⟨acc, r1, r2, r3⟩ := CP.put (stbI (K := K)) hD (by omega) p (show FI H3 (.int y) y from rfl)
        exact ⟨.int y, rfl, acc, r1, r2, _, r3⟩
      · exact ⟨ns, p.mono (Nat.le_succ i)⟩
    · obtain ⟨ns, p⟩ := p
      obtain ⟨ys, e1, e2, e3⟩ := p.at_
      have e4 := Paired.length e2
      rw [paired_ints e2] at e1
      rw [List.length_map] at e3
      exact q D0 ns H3 p.ext hD (by omega) e1
/-! ### _law_at -/
def spAt (K : PySem.W.Frag) (Ps : Tbs) : Sp := fun vs H Q _ => ∃ (x y : V) (n k : Int) (fss : List (List Int)) (ns : List Int), vs = [x, y] ∧ Stk K H x n k fss ∧ LI K H y ns ∧ (∀ i ∈ ns, 0 ≤ i ∧ i < (fss.length : Int)) ∧ ns.length ≤ 100 ∧ Tb Ps H ∧
  ∀ l ys H', Ext Ps H H' → H l = none → H' l = some (.lst ys) → Paired (TupI K H') ys (facesAt fss ns) → Q (.ref l) H'
theorem ok_at (D : Def K mg "_law_at" sAt ["_law_stack_here", "_law_numbers"] f fd c) : FnOk P w K mg base CX0 (k + 1) f fd ["_law_stack_here", "_law_numbers"] (spAt K Ps) := by
  refine D.ok (k := k) scAt (fun vs H Q E h => ?_) (fun A outer s H vs Q E hr h => ?_)
  · obtain ⟨x, y, n, kk, fss, ns, rfl, _⟩ := h
    rfl
  · obtain ⟨_, _, n, kk, fss, ns, rfl, ⟨a, fa, xs, rfl, h1, h2, h3⟩, ⟨b, rfl, hB⟩, hb, hl, ht, q⟩ := h
    refine ⟨_, pss_one (ps_ret (pe_lc (own := [("_law_number", 2)]) (g := gName 2) (by rfl) scAt.nd (pi_list (pv 1)) (blkOk_by (N := ["_law_stack_here", "_law_numbers", "_law_number"]) (sc := defScope sAt) (by decide +kernel))
      (fun _ _ _ _ _ => pg_name (i := 2) scAt.nd rfl (Or.inl rfl)) (fun _ _ _ _ _ => pts_nil) (fun _ _ _ _ _ => pe_ix (show IxR _ (rIxT K) from ix_tup) (pe_ix (show IxR _ (rIxT K) from ix_tup) (pv 0) pe_int (fun _ _ => rfl)) (pv 2) (fun _ _ => rfl)))), ?_⟩
    refine ⟨.ref b, rfl, b, rfl, ⟨_, hB⟩, fun D0 hD => lc_list (K := K) (a := b) (xs := ns.map V.int) (fun i H3 => CP Ps (TupI K) H D0 (facesAt fss (ns.take i)) i H3) (CP.start ht hD) (fun i H3 _ p => p.ext.sqL hB) (fun i x H3 hx p => ?_) (fun H3 p => ?_)⟩
    · obtain ⟨y, hy, rfl⟩ := map_int hx
      have hi : i < ns.length := (List.getElem?_eq_some_iff.mp hy).1
      obtain ⟨b0, b1⟩ := hb y (List.mem_of_getElem? hy)
      have hlt : y.toNat < fss.length := by omega
      obtain ⟨z, hz, hI⟩ := paired_get' h3 (List.getElem?_eq_getElem hlt)
      refine ⟨rfl, yes_ (iteT ?_)⟩
      refine ⟨.ref a, rfl, a, _, 2, .ref fa, rfl, rfl, p.ext.sqT h1, at2, .int y, rfl, fa, xs, y, z, rfl, rfl, p.ext.sqT h2, atI_int b0 hz, ?_⟩
      have r := CP.put (stbT (K := K)) hD (by omega) p (p.ext.tupI hI)
      unfold facesAt at r ⊢
      rw [List.take_add_one, hy, List.map_append]
      have eg : fss.getD y.toNat [] = fss[y.toNat] := by
        rw [List.getD_eq_getElem?_getD, List.getElem?_eq_getElem hlt]
        rfl
      rw [← eg] at r
      exact r
    · obtain ⟨ys, e1, e2, e3⟩ := p.at_
      rw [List.length_map, List.take_length] at e2
      exact q D0 ys H3 p.ext hD e1 e2
/-! ### _law_lot -/
def spLot (K : PySem.W.Frag) (Ps : Tbs) : Sp := fun vs H Q _ => ∃ (a : Addr) (x : V) (n k : Int) (fss : List (List Int)), vs = [.ref a, x] ∧ Pen H a ∧ Stk K H x n k fss ∧ fss.length ≤ 70 ∧ Tb Ps H ∧ ∀ (v : V) (ns : List Int) (H' : Hp), Epn Ps a H H' → TupI K H' v ns → LotOk fss.length ns → Q v H'
theorem ok_lot {fD cD : Addr} {fdD : FuncData} (D : Def K mg "_law_lot" sLot ["_law_pen_here", "_law_stack_here"] f fd c) (DD : Def K mg "_law_draw" sDraw ["_law_pen_here", "_law_many"] fD fdD cD) (GD : FnOk P w K mg base CX0 k fD fdD ["_law_pen_here", "_law_many"] spDraw)
    (mr : mg "range" = none) (ml : mg "len" = none) (mt : mg "tuple" = none) : FnOk P w K mg base CX0 (k + 1) f fd ["_law_pen_here", "_law_stack_here"] (spLot K Ps) := by
  refine D.ok (k := k) scLot (fun vs H Q E h => ?_) (fun A outer s H vs Q E hr h => ?_)
  · obtain ⟨a, x, n, kk, fss, rfl, _⟩ := h
    rfl
  · obtain ⟨a, _, n, kk, fss, rfl, hP, ⟨b, fa, xs, rfl, h1, h2, h3⟩, hl, ht, q⟩ := h
    have hlen := Paired.length h3
    refine ⟨_, pss_cons (ps_set (i := 2) scLot.nd rfl (.inr rfl) (pe_op op_add pe_int (pcl DD GD hr (pa_cons (pv 0) (pa_cons pe_int pa_nil)))))
      (pss_one (ps_ret (pe_callTy call_tuple_of (by rfl) mt (by decide +kernel) (pa_cons (pe_lc (own := [("_law_at_here", 3)]) (g := gName 3) (by rfl) scLot.nd (pi_range1 (by rfl) mr (pa_cons (pe_callB (call_lenS (K := K) rfl) (by rfl) ml PySem.boot_len (pa_cons (pe_ix ix_tup (pv 1) pe_int (fun _ _ => rfl)) pa_nil)) pa_nil)) (blkOk_by (N := ["_law_pen_here", "_law_stack_here", "_law_few", "_law_at_here"]) (sc := defScope sLot) (by decide +kernel))
        (fun _ _ _ _ _ => pg_name (i := 3) scLot.nd rfl (Or.inl rfl)) (fun _ _ _ _ _ => pts_one (pt_cmpR op_eq (pcl DD GD hr (pa_cons (pv 0) (pa_cons (pv 2) pa_nil))) pe_int (nomark _))) (fun _ _ _ _ _ => pv 3)) pa_nil)))), ?_⟩
    refine ⟨.ref a, rfl, a, 4, rfl, hP, by decide, by decide, fun x0 f0 r r0 r1 => ⟨1, r, rfl, rfl, ?_⟩⟩
    have x1 : Epn Ps a H (upd H a (.lst [.int x0, .int f0])) := Epn.draw ht hP
    refine ⟨.ref b, rfl, b, _, 2, .ref fa, rfl, rfl, x1.sqT h1, at2, fa, xs, rfl, .inr (x1.sqT h2), (xs.length : Int), rfl, by omega, by omega, fun D0 hD => ?_⟩
    have nD : a ≠ D0 := ne_of_none upd_same hD
    have hD' := x1.free hD
    refine lc_range (lo := 0) (n := ((xs.length : Int)).toNat) (fun i H3 => Epn Ps a H H3 ∧ ∃ ns : List Int, H3 D0 = some (.lst (ns.map V.int)) ∧ ns.Pairwise (· < ·) ∧ (∀ z ∈ ns, 0 ≤ z ∧ z < (i : Int)) ∧ ns.length ≤ i) ⟨x1.trans ((Ext.new x1.tb hD).epn x1.pen), [], upd_same, .nil, fun z hz => absurd hz (by simp), Nat.le_refl _⟩ (fun i H3 hi p => ?_) (fun H3 p => ?_)
    · obtain ⟨x3, ns, g1, g2, g3, g4⟩ := p
      have hi' : i < xs.length := by
        have : i < ((xs.length : Int)).toNat := hi
        omega
      refine ⟨rfl, .ref a, rfl, .int (1 + r), rfl, a, 1 + r, rfl, x3.pen, by omega, by omega, fun x4 f4 z z0 z1 => ⟨rfl, _, rfl, ?_⟩⟩
      have y4 : Epn Ps a H (upd H3 a (.lst [.int x4, .int f4])) := x3.trans (Epn.draw x3.tb x3.pen)
      have g5 : (upd H3 a (.lst [.int x4, .int f4])) D0 = some (.lst (ns.map V.int)) := by
        rw [upd_ne (Ne.symm nD)]
        exact g1
      refine ite2 (fun hc => ?_) (fun hc => ?_)
      · refine ⟨.int (0 + i), rfl, ns.map V.int, g5, ?_, y4.write hD' g5 (fun q z => by cases z), ns ++ [(i : Int)], ?_, ?_, fun z hz => ?_, ?_⟩
        · rw [List.length_map]
          exact small1000 (by omega)
        · rw [upd_same, List.map_append]
          simp
        · refine List.pairwise_append.mpr ⟨g2, List.pairwise_singleton _ _, fun u hu v hv => ?_⟩
          rw [List.mem_singleton.mp hv]
          exact (g3 u hu).2
        · rcases List.mem_append.mp hz with q | q
          · have := g3 z q
            omega
          · rw [List.mem_singleton.mp q]
            omega
        · rw [List.length_append, List.length_singleton]
          omega
      · exact ⟨y4, ns, g5, g2, fun z hz => by have := g3 z hz; omega, by omega⟩
    · obtain ⟨x3, ns, g1, g2, g3, g4⟩ := p
      rw [Int.toNat_natCast] at g3 g4
      refine ⟨D0, _, rfl, .inl ⟨.inl (.inl g1), fun l hl => q (.ref l) ns _ (x3.trans ((Ext.new x3.tb hl).epn x3.pen)) ⟨l, rfl, .inl (.inl upd_same)⟩ ⟨fun z hz => ?_, g2, by omega⟩⟩⟩
      have := g3 z hz
      omega
end
end Lf

set_option maxHeartbeats 1000000
namespace Lf
open PySem PySem.Spec PyProof.Rows L2 GxR GxA SrT
theorem u65 {k : Nat} {A : Around} (r : Room k A) : A.units + 65 < cLine := by
  have := r.un
  omega
/-! ### lists of lists of ints as data -/
abbrev lD (ns : List Int) : PyData := .list (iD ns)
theorem lay_lls : ∀ fs : List (List Int), PyData.canLayAll0 (fs.map lD) = true
  | [] => by simp [PyData.canLayAll0]
  | n :: ns => by
    have := lay_lls ns
    simp [PyData.canLayAll0, PyData.canLay0, this, lay_ints]
theorem dep_lls : ∀ fs : List (List Int), PyData.depthAll (fs.map lD) ≤ 1
  | [] => by simp [PyData.depthAll]
  | n :: ns => by
    have := dep_lls ns
    simp [PyData.depthAll, PyData.depth, this, dep_ints]
theorem shp_lls (fs : List (List Int)) : SeqAt.shaped (.list (fs.map lD)) = true := by
  unfold SeqAt.shaped
  have h1 := dep_lls fs
  have h2 : PyData.canLay0 (.list (fs.map lD)) = true := by
    rw [PyData.canLay0]
    exact lay_lls fs
  have h3 : PyData.depth (.list (fs.map lD)) = PyData.depthAll (fs.map lD) + 1 := by rw [PyData.depth]
  rw [h2, h3, Bool.true_and]
  exact decide_eq_true (by omega)
/-- a list of ints of ours, that is not the list at D -/
def LIn (D : Addr) : Hp → V → List Int → Prop := fun H x ns => ∃ a, x = .ref a ∧ a ≠ D ∧ H a = some (.lst (ns.map V.int)) ∧ ns.length ≤ 100
section
variable {P : Program} {w : World} {K : PySem.W.Frag} {mg : Str → Option Value} {base : Heap} {Ps : Tbs} {H H' H0 : Hp} {k : Nat} {f c : Addr} {fd : FuncData}
theorem LIn.ext {D : Addr} {x : V} {ns : List Int} (e : Ext Ps H H') (h : LIn D H x ns) : LIn D H' x ns := let ⟨a, h1, h2, h3, h4⟩ := h; ⟨a, h1, h2, e.lst h3, h4⟩
theorem LIn.put {D : Addr} {x : V} {ns : List Int} {l' : List V} (h : LIn D H x ns) : LIn D (upd H D (.lst l')) x ns := let ⟨a, h1, h2, h3, h4⟩ := h; ⟨a, h1, h2, by rw [upd_ne h2]; exact h3, h4⟩
theorem LIn.seq {D : Addr} {x : V} {ns : List Int} (h : LIn D H x ns) : SeqI K H x ns := let ⟨a, h1, h2, h3, h4⟩ := h; ⟨a, h1, .inl (.inl (.inl h3))⟩
theorem LIn.other {D D' : Addr} {x : V} {ns : List Int} (h : LIn D H x ns) (hD : H D' = none) : LIn D' H x ns := let ⟨a, h1, h2, h3, h4⟩ := h; ⟨a, h1, ne_of_none h3 hD, h3, h4⟩
theorem dp_lls {D : Addr} : ∀ {xs : List V} {fs : List (List Int)}, Paired (LIn D H) xs fs → DpAll K H xs (fs.map lD)
  | _, _, .nil => .nil
  | _, _, .cons ⟨a, h1, h2, h3, h4⟩ t => by
    subst h1
    exact .cons (.lst (.inl (.inl h3)) (dp_ints _)) (dp_lls t)
theorem CP.skipL {D : Addr} {out : List (List Int)} {n : Nat} (h : CP Ps (LIn D) H0 D out n H) (e : Ext Ps H H') : CP Ps (LIn D) H0 D out n H' := by
  obtain ⟨ys, h1, h2, h3⟩ := h.at_
  exact ⟨h.ext.trans e, ys, e.lst h1, L2.Paired.mapP h2 fun _ _ z => LIn.ext e z, h3⟩
theorem CP.putL {D : Addr} {out : List (List Int)} {n : Nat} (hD : H0 D = none) (hn : n ≤ 1000) {y : V} {z : List Int} (h : CP Ps (LIn D) H0 D out n H) (hF : LIn D H y z) :
    ∃ acc, H D = some (.lst acc) ∧ acc.length < sizeLine ∧ CP Ps (LIn D) H0 D (out ++ [z]) (n + 1) (upd H D (.lst (acc ++ [y]))) := by
  obtain ⟨ys, h1, h2, h3⟩ := h.at_
  refine ⟨ys, h1, small1000 (Nat.le_trans h3 hn), ⟨h.ext.write hD h1 (fun q z => by cases z), ys ++ [y], upd_same, ?_, ?_⟩⟩
  · exact paired_snoc (L2.Paired.mapP h2 fun _ _ z => LIn.put z) (LIn.put hF)
  · rw [List.length_append]
    exact Nat.add_le_add_right h3 1
/-! ### _law_may -/
def spMay (K : PySem.W.Frag) (Ps : Tbs) : Sp := fun vs H Q _ => ∃ (kk : Int) (y z : V) (fss : List (List Int)) (fc : List Int), vs = [.int kk, y, z] ∧ LstT K H y fss ∧ TupI K H z fc ∧ fss.length ≤ 100 ∧ fc.length ≤ 100 ∧ Tb Ps H ∧ ∀ (b : Bool) (H' : Hp), Ext Ps H H' → Q (.bl b) H'
theorem ok_may {fC cC fW cW : Addr} {fdC fdW : FuncData} (D : Def K mg "_law_may" sMay ["_law_k", "_law_faces", "_law_face"] f fd c) (DC : Def K mg "_law_common" sCommon ["_law_one", "_law_other"] fC fdC cC) (GC : FnOk P w K mg base CX0 k fC fdC ["_law_one", "_law_other"] (spCommon K Ps))
    (DW : Def K mg "_law_within" sWithinL ["_law_part", "_law_face"] fW fdW cW) (GW : FnOk P w K mg base CX0 k fW fdW ["_law_part", "_law_face"] (spWithinL K Ps)) (ml : mg "len" = none) : FnOk P w K mg base CX0 (k + 1) f fd ["_law_k", "_law_faces", "_law_face"] (spMay K Ps) := by
  refine D.ok (k := k) scMay (fun vs H Q E h => ?_) (fun A outer s H vs Q E hr h => ?_)
  · obtain ⟨kk, y, z, fss, fc, rfl, _⟩ := h
    rfl
  · obtain ⟨kk, _, z, fss, fc, rfl, ⟨l, xs, rfl, hL, hp⟩, hZ, hfl, hcl, ht, q⟩ := h
    have hxl := Paired.length hp
    refine ⟨_, pss_cons (ps_setLc (i := 3) (own := [("_law_one", 6)]) (g := gName 6) (by rfl) scMay.nd rfl rfl (sw_true rfl rfl rfl (by decide +kernel)) (pi_list (pv 1)) (blkOk_by (N := ["_law_k", "_law_faces", "_law_face", "_law_some", "_law_beside", "_law_own", "_law_one"]) (sc := defScope sMay) (by decide +kernel))
        (fun _ _ _ _ _ => pg_name (i := 6) scMay.nd rfl (Or.inl rfl)) (fun _ _ _ _ _ => pts_nil) (fun _ _ _ _ _ => pcl DC GC hr (pa_cons (pv 2) (pa_cons (pv 6) pa_nil))))
      (pss_cons (ps_setLc (i := 4) (own := [("_law_one", 6)]) (g := gName 6) (by rfl) scMay.nd rfl rfl (sw_true rfl rfl rfl (by decide +kernel)) (pi_list (pv 3)) (blkOk_by (N := ["_law_k", "_law_faces", "_law_face", "_law_some", "_law_beside", "_law_own", "_law_one"]) (sc := defScope sMay) (by decide +kernel))
        (fun _ _ _ _ _ => pg_name (i := 6) scMay.nd rfl (Or.inl rfl)) (fun _ _ _ _ _ => pts_one (pt_cmpR op_eq (pe_callB (call_lenS (K := K) rfl) (by rfl) ml PySem.boot_len (pa_cons (pv 6) pa_nil)) (pe_op op_sub (pv 0) pe_int) (nomark _))) (fun _ _ _ _ _ => pv 6))
      (pss_cons (ps_for PassesOwn.never rfl (pi_list (pv 3)) (pg_name (i := 5) scMay.nd rfl (.inr rfl))
        (pss_one (ps_if (pt_cmpR (op_eqD hr.units) (pe_lc (own := [("_law_one", 6)]) (g := gName 6) (by rfl) scMay.nd (pi_list (pv 4)) (blkOk_by (N := ["_law_k", "_law_faces", "_law_face", "_law_some", "_law_beside", "_law_own", "_law_one"]) (sc := defScope sMay) (by decide +kernel))
          (fun _ _ _ _ _ => pg_name (i := 6) scMay.nd rfl (Or.inl rfl)) (fun _ _ _ _ _ => pts_one (pt_val (pcl DW GW hr (pa_cons (pv 5) (pa_cons (pv 6) pa_nil))))) (fun _ _ _ _ _ => pv 6)) (pe_lst pa_nil) (nomark _)) (pss_one (ps_ret pe_bl)) pss_nil)))
      (pss_one (ps_ret (pe_cmpR (op_notInD (u65 hr)) (pv 2) (pv 1) (by with_unfolding_all rfl)))))), ?_⟩
    -- some
    refine ⟨.ref l, rfl, l, rfl, ⟨_, hL⟩, fun D0 hD => lc_list (K := K) (a := l) (xs := xs) (fun i H3 => ∃ nss, CP Ps (LIn D0) H D0 nss i H3) ⟨[], CP.start ht hD⟩ (fun i H3 _ p => let ⟨_, z⟩ := p; z.ext.sqL hL) (fun i x H3 hx p => ?_) (fun H3 p => ?_)⟩
    · obtain ⟨nss, p⟩ := p
      have hi : i < xs.length := (List.getElem?_eq_some_iff.mp hx).1
      obtain ⟨g, hg, hI⟩ := paired_get hp hx
      refine ⟨rfl, yes_ (iteT ?_)⟩
      refine ⟨z, rfl, x, rfl, z, x, fc, g, rfl, p.ext.tupI hZ, p.ext.tupI hI, hcl, p.ext.tb, fun u ns H4 e4 hu hn h4 => ?_⟩
      have hD3 : ∃ o, H3 D0 = some o := let ⟨ys, h1, _⟩ := p.at_; ⟨_, h1⟩
      obtain ⟨o, ho⟩ := hD3
      obtain ⟨acc, r1, r2, r3⟩ := CP.putL hD (by omega) (p.skipL e4) (show LIn D0 H4 (.ref u) ns from ⟨u, rfl, Ne.symm (ne_of_none ho hu), h4, hn⟩)
      exact ⟨acc, r1, r2, _, r3⟩
    obtain ⟨nss, p⟩ := p
    obtain ⟨ys, s1, s2, s3⟩ := p.at_
    have x3 := p.ext
    -- beside
    refine ⟨.ref D0, rfl, D0, rfl, ⟨_, .inl (.inl s1)⟩, fun D1 hD1 => lc_list (K := K) (a := D0) (xs := ys) (fun i H4 => ∃ mss, CP Ps (LIn D1) H3 D1 mss i H4) ⟨[], CP.start x3.tb hD1⟩ (fun i H4 _ p => let ⟨_, z⟩ := p; z.ext.sqL (.inl (.inl s1))) (fun i x H4 hx p => ?_) (fun H4 p => ?_)⟩
    · obtain ⟨mss, p⟩ := p
      have hi : i < ys.length := (List.getElem?_eq_some_iff.mp hx).1
      obtain ⟨g, hg, hI⟩ := paired_get s2 hx
      have hI1 : LIn D1 H4 x g := LIn.ext p.ext (hI.other hD1)
      obtain ⟨u, rfl, hu1, hu2, hu3⟩ := id hI1
      refine ⟨rfl, .ref u, rfl, u, _, rfl, .inl (.inl (.inl hu2)), .int kk, rfl, kk, 1, rfl, rfl, rfl, _, rfl, ite2 (fun hc => ?_) (fun hc => ?_)⟩
      · obtain ⟨acc, r1, r2, r3⟩ := CP.putL hD1 (by omega) p hI1
        exact ⟨.ref u, rfl, acc, r1, r2, _, r3⟩
      · exact ⟨mss, p.mono (Nat.le_succ i)⟩
    obtain ⟨mss, p4⟩ := p
    obtain ⟨bs, b1, b2, b3⟩ := p4.at_
    have x4 : Ext Ps H H4 := x3.trans p4.ext
    have hys4 : SqL K H4 D0 ys := .inl (.inl (p4.ext.lst s1))
    -- for own in some
    refine ⟨.ref D0, rfl, D0, rfl, ⟨_, hys4⟩, for_list (K := K) (a := D0) (xs := ys) (fun i σ H5 => Ext Ps H4 H5 ∧ ∃ y5 y6, σ = [some (.int kk), some (.ref l), some z, some (.ref D0), some (.ref D1), y5, y6]) ⟨Ext.refl x4.tb, none, none, rfl⟩ (fun i σ H5 _ p => p.1.sqL hys4) (fun i x σ H5 hx p => ?_) (fun σ H5 p => ?_)⟩
    · obtain ⟨e5, y5, y6, rfl⟩ := p
      obtain ⟨g, hg, hI⟩ := paired_get s2 hx
      have hI5 : LIn D0 H5 x g := LIn.ext e5 (LIn.ext p4.ext hI)
      obtain ⟨u, rfl, hu1, hu2, hu3⟩ := id hI5
      refine ⟨.ref D1, rfl, D1, rfl, ⟨_, .inl (.inl (e5.lst b1))⟩, fun D2 hD2 => lc_list (K := K) (a := D1) (xs := bs) (fun j H6 => ∃ kss, CP Ps (LIn D2) H5 D2 kss j H6) ⟨[], CP.start e5.tb hD2⟩ (fun j H6 _ p => let ⟨_, z⟩ := p; z.ext.sqL (.inl (.inl (e5.lst b1)))) (fun j y H6 hy p => ?_) (fun H6 p => ?_)⟩
      · obtain ⟨kss, p⟩ := p
        have hj : j < bs.length := (List.getElem?_eq_some_iff.mp hy).1
        obtain ⟨h, hh, hJ⟩ := paired_get b2 hy
        have hJ2 : LIn D2 H6 y h := LIn.ext p.ext (LIn.other (LIn.ext e5 hJ) hD2)
        refine ⟨rfl, .ref u, rfl, y, rfl, .ref u, y, g, h, rfl, LIn.seq (LIn.ext p.ext hI5), LIn.seq hJ2, hu3, p.ext.tb, fun H7 e7 => ⟨_, rfl, ite2 (fun hc => ?_) (fun hc => ?_)⟩⟩
        · obtain ⟨acc, r1, r2, r3⟩ := CP.putL hD2 (by omega) (p.skipL e7) (LIn.ext e7 hJ2)
          exact ⟨y, rfl, acc, r1, r2, _, r3⟩
        · exact ⟨kss, (p.skipL e7).mono (Nat.le_succ j)⟩
      · obtain ⟨kss, p⟩ := p
        obtain ⟨zs, c1, c2, c3⟩ := p.at_
        refine ⟨Nat.zero_le _, fun u2 hu2 => ?_⟩
        have x7 := Ext.new (o := .lst []) p.ext.tb hu2
        refine ⟨_, .list (iD []), .lst (.inl (.inl (x7.lst c1))) (dp_lls (L2.Paired.mapP c2 fun _ _ z => LIn.ext x7 z)), .lst (xs := []) (.inl (.inl upd_same)) .nil, shp_lls _, shp_list [], _, rfl, ite2 (fun hc => ?_) (fun hc => ?_)⟩
        · exact q false _ (x4.trans (e5.trans (p.ext.trans x7)))
        · exact ⟨e5.trans (p.ext.trans x7), some (.ref u), y6, rfl⟩
    · obtain ⟨e5, y5, y6, rfl⟩ := p
      have x5 := x4.trans e5
      exact ⟨z, rfl, .ref l, rfl, tD fc, fss.map tD, dp_tup (x5.tupI hZ), dp_lst (x5.lstT ⟨l, xs, rfl, hL, hp⟩), shp_tup fc, shp_tups fss, q _ _ x5⟩
end
end Lf

set_option maxHeartbeats 1000000
namespace Lf
open PySem PySem.Spec PyProof.Rows L2 GxR GxA SrT
abbrev sLaid : Stmt := topS 57
theorem scLaid : FnScope ["_law_pen_here", "_law_stack_here", "_law_row", "_law_left", "_law_can", "_law_faces", "_law_number"] ["_law_pen_here", "_law_stack_here"] (defScope sLaid) := ⟨rfl, rfl, rfl, by decide +kernel, rfl, by decide +kernel, by decide +kernel⟩
/-- the numbers from 0 on -/
def rng (m : Nat) : List Int := (List.range m).map fun i : Nat => (i : Int)
theorem rng_len (m : Nat) : (rng m).length = m := by simp [rng]
theorem rng_V (m : Nat) : rgV 0 (m : Int) = (rng m).map V.int := by
  unfold rgV rng
  rw [List.map_map]
  have e : ((m : Int) - 0).toNat = m := by omega
  rw [e]
  refine List.map_congr_left fun i _ => ?_
  show V.int (0 + (i : Int)) = V.int i
  rw [Int.zero_add]
theorem mem_rng {m : Nat} {i : Int} (h : i ∈ rng m) : 0 ≤ i ∧ i < (m : Int) := by
  obtain ⟨j, hj, rfl⟩ := List.mem_map.mp h
  have := List.mem_range.mp hj
  omega
theorem nd_rng (m : Nat) : (rng m).Nodup := by
  unfold rng
  refine List.Pairwise.map _ (fun a b hab e => ?_) List.nodup_range
  exact hab (by omega)
theorem find_at {ls : List Int} {v : Int} (nd : ls.Nodup) (h : v ∈ ls) : ∃ j : Nat, ls[j]? = some v ∧ (∀ m : Nat, m < j → ls[m]? ≠ some v) ∧ (v :: ls.eraseIdx j).Perm ls := by
  obtain ⟨j, hj, e⟩ := List.getElem_of_mem h
  refine ⟨j, by rw [List.getElem?_eq_getElem hj, e], fun m hm z => ?_, ?_⟩
  · obtain ⟨hm2, e2⟩ := List.getElem?_eq_some_iff.mp z
    have := (List.getElem_inj nd).mp (e2.trans e.symm)
    omega
  · have e3 : ls = ls.take j ++ v :: ls.drop (j + 1) := by
      rw [← e, ← List.drop_eq_getElem_cons hj, List.take_append_drop]
    rw [List.eraseIdx_eq_take_drop_succ]
    conv => rhs; rw [e3]
    exact List.perm_middle.symm
/-- how many things the list in the fourth slot has -/
def lstLen : Option HO → Nat
  | some (.lst xs) => xs.length
  | _ => 0
def slotLen (H : Hp) : Option (Option V) → Nat
  | some (some (V.ref l)) => lstLen (H l)
  | _ => 0
def lefts (σ : L2.St) (H : Hp) : Nat := slotLen H σ[3]?
section
variable {P : Program} {w : World} {K : PySem.W.Frag} {mg : Str → Option Value} {base : Heap} {Ps : Tbs} {H H' H0 : Hp} {k : Nat} {f c : Addr} {fd : FuncData}
def spLaid (K : PySem.W.Frag) (Ps : Tbs) : Sp := fun vs H Q _ => ∃ (a : Addr) (x : V) (n kk : Int) (fss : List (List Int)), vs = [.ref a, x] ∧ Pen H a ∧ Stk K H x n kk fss ∧ fss.length < 64 ∧ (∀ f ∈ fss, f.length ≤ 4) ∧ Tb Ps H ∧
  ∀ (v : V) (ns : List Int) (H' : Hp), Epn Ps a H H' → TupI K H' v ns → ns.Perm (rng fss.length) → Q v H'
/-- between two turns: the row, what is left, what can be laid -/
structure Rw (Ps : Tbs) (a : Addr) (m : Nat) (H0 H : Hp) (r l cn : Addr) (rs ls cs : List Int) : Prop where
  ext : Epn Ps a H0 H
  hr : H r = some (.lst (rs.map V.int))
  hl : H l = some (.lst (ls.map V.int))
  hc : H cn = some (.lst (cs.map V.int))
  nr : H0 r = none
  nl : H0 l = none
  nc : H0 cn = none
  rl : r ≠ l
  rc : r ≠ cn
  lc : l ≠ cn
  perm : (rs ++ ls).Perm (rng m)
  sub : ∀ z ∈ cs, z ∈ ls
  few : cs.length ≤ 64
theorem Rw.ne {a : Addr} {m : Nat} {r l cn : Addr} {rs ls cs : List Int} (h : Rw Ps a m H0 H r l cn rs ls cs) : r ≠ a ∧ l ≠ a ∧ cn ≠ a := by
  obtain ⟨x, f, e⟩ := h.ext.p0
  exact ⟨Ne.symm (ne_of_none e h.nr), Ne.symm (ne_of_none e h.nl), Ne.symm (ne_of_none e h.nc)⟩
theorem facesAt_len (fss : List (List Int)) (ns : List Int) : (facesAt fss ns).length = ns.length := by simp [facesAt]
theorem ok_laid {fD cD fA cA fM cM : Addr} {fdD fdA fdM : FuncData} (D : Def K mg "_law_laid_row" sLaid ["_law_pen_here", "_law_stack_here"] f fd c) (DD : Def K mg "_law_draw" sDraw ["_law_pen_here", "_law_many"] fD fdD cD) (GD : FnOk P w K mg base CX0 k fD fdD ["_law_pen_here", "_law_many"] spDraw)
    (DA : Def K mg "_law_at" sAt ["_law_stack_here", "_law_numbers"] fA fdA cA) (GA : FnOk P w K mg base CX0 k fA fdA ["_law_stack_here", "_law_numbers"] (spAt K Ps)) (DM : Def K mg "_law_may" sMay ["_law_k", "_law_faces", "_law_face"] fM fdM cM) (GM : FnOk P w K mg base CX0 k fM fdM ["_law_k", "_law_faces", "_law_face"] (spMay K Ps))
    (mr : mg "range" = none) (ml : mg "len" = none) (mt : mg "tuple" = none) (ms : mg "list" = none) : FnOk P w K mg base CX0 (k + 1) f fd ["_law_pen_here", "_law_stack_here"] (spLaid K Ps) := by
  refine D.ok (k := k) scLaid (fun vs H Q E h => ?_) (fun A outer s H vs Q E hr h => ?_)
  · obtain ⟨a, x, n, kk, fss, rfl, _⟩ := h
    rfl
  · obtain ⟨a, _, n, kk, fss, rfl, hP, ⟨b, fa, xs, rfl, h1, h2, h3⟩, hlt, hf4, ht, q⟩ := h
    have hlen := Paired.length h3
    have hlenI : (xs.length : Int) = (fss.length : Int) := by omega
    refine ⟨_, pss_cons (ps_par (i := 2) (j := 3) (by rfl) scLaid.nd rfl rfl (by decide) rfl rfl (pa_cons (pe_lst pa_nil) (pa_cons (pe_listRg (by rfl) (by rfl) ms (prg_1 (by rfl) mr (pe_callB (call_lenS (K := K) rfl) (by rfl) ml PySem.boot_len (pa_cons (pe_ix ix_tup (pv 1) pe_int (fun _ _ => rfl)) pa_nil)))) pa_nil)) (by rfl))
      (pss_cons (ps_set (i := 4) scLaid.nd rfl (.inl rfl) (pe_callTy call_list_of (by rfl) ms (by decide +kernel) (pa_cons (pv 3) pa_nil)))
      (pss_cons (ps_while PassesOwn.never (pt_cmpR (op_neD hr.units) (pv 4) (pe_lst pa_nil) (nomark _))
        (pss_cons (ps_expr (pe_bm PySem.F.plainAttrs_list PySem.F.slot_list_append PySem.F.type_list_append mt_append (pv 2) (pa_cons (pe_ix ix_list (pv 4) (pcl DD GD hr (pa_cons (pv 0) (pa_cons (pe_callB (call_lenS (K := K) rfl) (by rfl) ml PySem.boot_len (pa_cons (pv 4) pa_nil)) pa_nil))) (fun _ _ => rfl)) pa_nil)))
        (pss_cons (ps_expr (pe_bm PySem.F.plainAttrs_list PySem.F.slot_list_remove PySem.F.type_list_remove mt_remove (pv 3) (pa_cons (pe_ix ix_list (pv 2) (pe_un un_neg pe_int) (fun _ _ => rfl)) pa_nil)))
        (pss_cons (ps_par (i := 5) (j := 4) (by rfl) scLaid.nd rfl rfl (by decide) rfl rfl (pa_cons (pcl DA GA hr (pa_cons (pv 1) (pa_cons (pv 2) pa_nil))) (pa_cons (pe_lst pa_nil) pa_nil)) (by rfl))
        (pss_one (ps_for PassesOwn.never rfl (pi_list (pv 3)) (pg_name (i := 6) scLaid.nd rfl (.inl rfl))
          (pss_one (ps_if (pt_val (pcl DM GM hr (pa_cons (pe_ix ix_tup (pv 1) pe_int (fun _ _ => rfl)) (pa_cons (pv 5) (pa_cons (pe_ix ix_tup (pe_ix ix_tup (pv 1) pe_int (fun _ _ => rfl)) (pv 6) (fun _ _ => rfl)) pa_nil)))))
            (pss_one (ps_expr (pe_bm PySem.F.plainAttrs_list PySem.F.slot_list_append PySem.F.type_list_append mt_append (pv 4) (pa_cons (pv 6) pa_nil)))) pss_nil))))))))
      (pss_one (ps_ret (pe_callTy call_tuple_of (by rfl) mt (by decide +kernel) (pa_cons (pe_op op_cat (pv 2) (pv 3)) pa_nil)))))), ?_⟩
    -- row, left
    refine ⟨Nat.zero_le _, fun r nr => ?_⟩
    have x1 : Ext Ps H (upd H r (.lst [])) := Ext.new ht nr
    refine ⟨.ref b, rfl, b, _, 2, .ref fa, rfl, rfl, x1.sqT h1, at2, fa, xs, rfl, .inr (x1.sqT h2), (xs.length : Int), rfl, RgOk.of_le (by omega) (by omega) (by omega) (by omega), fun l nl => ?_⟩
    rw [hlenI, rng_V]
    have x2 := x1.trans (Ext.new (o := .lst ((rng fss.length).map V.int)) x1.tb nl)
    refine ⟨.ref r, .ref l, rfl, .ref l, rfl, l, _, rfl, .inl (.inl (.inl upd_same)), fun cn nc => ?_⟩
    have x3 := x2.trans (Ext.new (o := .lst ((rng fss.length).map V.int)) x2.tb nc)
    have rl : r ≠ l := ne_of_none upd_same nl
    have lcn : l ≠ cn := ne_of_none upd_same nc
    have rcn : r ≠ cn := ne_of_none (H := upd (upd H r (.lst [])) l (.lst ((rng fss.length).map V.int))) (by rw [upd_ne rl]; exact upd_same) nc
    have R0 : Rw Ps a fss.length H _ r l cn [] (rng fss.length) (rng fss.length) :=
      ⟨x3.epn hP, by rw [upd_ne rcn, upd_ne rl, upd_same]; rfl, by rw [upd_ne lcn]; exact upd_same, upd_same, nr, x1.free nl, x2.free nc, rl, rcn, lcn, List.Perm.refl _, fun z hz => hz, by rw [rng_len]; omega⟩
    refine while_by (fun σ H3 => ∃ (r l cn : Addr) (rs ls cs : List Int) (y5 y6 : Option V), Rw Ps a fss.length H H3 r l cn rs ls cs ∧ σ = [some (.ref a), some (.ref b), some (.ref r), some (.ref l), some (.ref cn), y5, y6]) lefts ⟨r, l, cn, [], rng fss.length, rng fss.length, none, none, R0, rfl⟩ (fun σ H3 p => ?_) (fun σ H3 Q1 Q2 hq h => ?_)
    · clear R0 rcn lcn rl x3 nc x2 nl x1 nr
      clear cn l r
      obtain ⟨r, l, cn, rs, ls, cs, y5, y6, R, rfl⟩ := p
      obtain ⟨nra, nla, nca⟩ := R.ne
      refine ⟨.ref cn, rfl, Nat.zero_le _, fun e0 ne0 => ?_⟩
      have z1 := Ext.new (o := .lst []) R.ext.tb ne0
      have hc1 := z1.lst R.hc
      refine ⟨.list (iD cs), .list (iD []), .lst (.inl (.inl hc1)) (dp_ints cs), .lst (xs := []) (.inl (.inl upd_same)) .nil, shp_list cs, shp_list [], _, rfl, ?_⟩
      have ev : PyData.eqv (.list (iD cs)) (.list (iD [])) = decide (cs = []) := by rw [PyData.eqv, eqv_ints]
      rw [ev]
      have E1 : Epn Ps a H (upd H3 e0 (.lst [])) := R.ext.trans (z1.epn R.ext.pen)
      have hr1 := z1.lst R.hr
      have hl1 := z1.lst R.hl
      generalize hH4 : upd H3 e0 (.lst []) = H4 at *
      have lenrl : rs.length + ls.length = fss.length := by
        have := R.perm.length_eq
        rw [List.length_append, rng_len] at this
        exact this
      have ndrl : (rs ++ ls).Nodup := R.perm.nodup_iff.mpr (nd_rng _)
      have belrl : ∀ z ∈ rs ++ ls, 0 ≤ z ∧ z < (fss.length : Int) := fun z hz => mem_rng (R.perm.mem_iff.mp hz)
      refine ite2 (fun hc => ?_) (fun hc => ?_)
      · have hcs : cs ≠ [] := by
          intro z
          rw [z] at hc
          simp at hc
        have hcl : 0 < cs.length := List.length_pos_iff.mpr hcs
        have few := R.few
        -- row.append(can[draw])
        refine ⟨.ref r, rfl, .inl ⟨rfl, _, .inl (.inl hr1)⟩, .ref cn, rfl, .ref a, rfl, .ref cn, rfl, cn, _, rfl, .inl (.inl (.inl hc1)), a, _, rfl, E1.pen, ?_, ?_, fun x5 f5 d d0 d1 => ?_⟩
        · rw [List.length_map]
          omega
        · rw [List.length_map]
          omega
        rw [List.length_map] at d1
        have E5 : Epn Ps a H4 (upd H4 a (.lst [.int x5, .int f5])) := Epn.draw E1.tb E1.pen
        have hr5 := E5.lst nra hr1
        have hl5 := E5.lst nla hl1
        have hc5 := E5.lst nca hc1
        have hdn : d.toNat < cs.length := by omega
        refine ⟨cn, _, d, .int cs[d.toNat], rfl, rfl, .inl (.inl hc5), atI_int d0 (by rw [List.getElem?_map, List.getElem?_eq_getElem hdn]; rfl), r, _, _, rfl, rfl, hr5, ?_, ?_⟩
        · rw [List.length_map]
          exact small1000 (by omega)
        generalize hv : cs[d.toNat] = v at *
        have hvl : v ∈ ls := R.sub v (by rw [← hv]; exact List.getElem_mem hdn)
        have E6 : Epn Ps a H (upd (upd H4 a (.lst [.int x5, .int f5])) r (.lst (rs.map V.int ++ [.int v]))) := (E1.trans E5).write R.nr hr5 (fun q z => by cases z)
        have hr6 : (upd (upd H4 a (.lst [.int x5, .int f5])) r (.lst (rs.map V.int ++ [.int v]))) r = some (.lst (rs.map V.int ++ [.int v])) := upd_same
        have hl6 : (upd (upd H4 a (.lst [.int x5, .int f5])) r (.lst (rs.map V.int ++ [.int v]))) l = some (.lst (ls.map V.int)) := by rw [upd_ne (Ne.symm R.rl)]; exact hl5
        generalize hH6 : upd (upd H4 a (.lst [.int x5, .int f5])) r (.lst (rs.map V.int ++ [.int v])) = H6 at *
        -- left.remove(row[-1])
        obtain ⟨j, j1, j2, j3⟩ := find_at (ls := ls) (List.nodup_append.mp ndrl).2.1 hvl
        refine ⟨.ref l, rfl, .inl ⟨rfl, _, .inl (.inl hl6)⟩, .ref r, rfl, 1, rfl, r, _, -1, .int v, rfl, rfl, .inl (.inl hr6), atI_last _ _, l, ls, v, j, rfl, rfl, hl6, j1, j2, ?_⟩
        have E7 : Epn Ps a H (upd H6 l (.lst ((ls.eraseIdx j).map V.int))) := E6.write R.nl hl6 (fun q z => by cases z)
        have hl7 : (upd H6 l (.lst ((ls.eraseIdx j).map V.int))) l = some (.lst ((ls.eraseIdx j).map V.int)) := upd_same
        have hr7 : (upd H6 l (.lst ((ls.eraseIdx j).map V.int))) r = some (.lst (rs.map V.int ++ [.int v])) := by rw [upd_ne R.rl]; exact hr6
        generalize hH7 : upd H6 l (.lst ((ls.eraseIdx j).map V.int)) = H7 at *
        have er : rs.map V.int ++ [.int v] = (rs ++ [v]).map V.int := by simp
        rw [er] at hr7
        have perm7 : ((rs ++ [v]) ++ ls.eraseIdx j).Perm (rng fss.length) := by
          rw [List.append_assoc]
          exact (List.Perm.append_left rs j3).trans R.perm
        have len7 : (rs ++ [v]).length + (ls.eraseIdx j).length = fss.length := by
          have := perm7.length_eq
          rw [List.length_append, rng_len] at this
          exact this
        have lenl : (ls.eraseIdx j).length + 1 = ls.length := by
          have := j3.length_eq
          simpa using this
        have bel7 : ∀ z ∈ (rs ++ [v]) ++ ls.eraseIdx j, 0 ≤ z ∧ z < (fss.length : Int) := fun z hz => mem_rng (perm7.mem_iff.mp hz)
        -- faces, can
        refine ⟨.ref b, rfl, .ref r, rfl, .ref b, .ref r, n, kk, fss, rs ++ [v], rfl, E7.stk ⟨b, fa, xs, rfl, h1, h2, h3⟩, ⟨r, rfl, .inl (.inl hr7)⟩, fun z hz => bel7 z (List.mem_append_left _ hz), by omega, E7.tb, fun fl fys H8 e8 nfl hfl hfp => ⟨Nat.zero_le _, fun c2 nc2 => ⟨.ref fl, .ref c2, rfl, ?_⟩⟩⟩
        have x9 := e8.trans (Ext.new (o := .lst []) e8.tb nc2)
        have E9 : Epn Ps a H (upd H8 c2 (.lst [])) := E7.trans (x9.epn E7.pen)
        have hr9 := x9.lst hr7
        have hl9 := x9.lst hl7
        have rc2 : r ≠ c2 := ne_of_none (e8.lst hr7) nc2
        have lc2 : l ≠ c2 := ne_of_none (e8.lst hl7) nc2
        have R9 : Rw Ps a fss.length H (upd H8 c2 (.lst [])) r l c2 (rs ++ [v]) (ls.eraseIdx j) [] := ⟨E9, hr9, hl9, upd_same, R.nr, R.nl, (E7.trans (e8.epn E7.pen)).free nc2, R.rl, rc2, lc2, perm7, fun z hz => absurd hz (by simp), Nat.zero_le _⟩
        have hfl9 : LstT K (upd H8 c2 (.lst [])) (.ref fl) (facesAt fss (rs ++ [v])) := by
          have e9 := Ext.new (o := .lst []) e8.tb nc2
          exact ⟨fl, fys, rfl, .inl (.inl (e9.lst hfl)), e9.tups hfp⟩
        have nfc : fl ≠ c2 := ne_of_none hfl nc2
        have nfa : fl ≠ a := by
          intro z
          obtain ⟨x, f, e⟩ := E7.pen
          rw [z] at nfl
          rw [nfl] at e
          cases e
        -- for number in left
        refine ⟨.ref l, rfl, l, rfl, ⟨_, .inl (.inl hl9)⟩, for_list (K := K) (a := l) (xs := (ls.eraseIdx j).map V.int) (fun i σ HX => ∃ (cs2 : List Int) (y : Option V), Rw Ps a fss.length H HX r l c2 (rs ++ [v]) (ls.eraseIdx j) cs2 ∧ cs2.length ≤ i ∧ LstT K HX (.ref fl) (facesAt fss (rs ++ [v])) ∧ σ = [some (.ref a), some (.ref b), some (.ref r), some (.ref l), some (.ref c2), some (.ref fl), y])
          ⟨[], y6, R9, Nat.le_refl _, hfl9, rfl⟩ (fun i σ HX _ p => let ⟨_, _, z, _⟩ := p; .inl (.inl z.hl)) (fun i x σ HX hx p => ?_) (fun σ HX p => ?_)⟩
        · obtain ⟨cs2, y, RX, hcl2, hF, rfl⟩ := p
          obtain ⟨num, hnum, rfl⟩ := map_int hx
          have hi : i < (ls.eraseIdx j).length := (List.getElem?_eq_some_iff.mp hnum).1
          have hmem := List.mem_of_getElem? hnum
          obtain ⟨n0, n1⟩ := bel7 num (List.mem_append_right _ hmem)
          have hnl : num.toNat < fss.length := by omega
          obtain ⟨z, hz, hI⟩ := paired_get' h3 (List.getElem?_eq_getElem hnl)
          have hfz := hf4 _ (List.getElem_mem hnl)
          refine ⟨.ref b, rfl, b, _, 1, .int kk, rfl, rfl, RX.ext.sqT h1, atI_nat (j := 1) rfl, .ref fl, rfl, .ref b, rfl, b, _, 2, .ref fa, rfl, rfl, RX.ext.sqT h1, at2, .int num, rfl, fa, xs, num, z, rfl, rfl, RX.ext.sqT h2, atI_int n0 hz,
            kk, .ref fl, z, _, _, rfl, hF, RX.ext.tupI hI, by rw [facesAt_len]; omega, by omega, RX.ext.tb, fun bb HY eY => ⟨bb, rfl, ite2 (fun hb => ?_) (fun hb => ?_)⟩⟩
          · have EY := eY.epn RX.ext.pen
            have hcY := eY.lst RX.hc
            refine ⟨.ref c2, rfl, .inl ⟨rfl, _, .inl (.inl hcY)⟩, .int num, rfl, c2, _, _, rfl, rfl, hcY, ?_, ?_⟩
            · rw [List.length_map]
              exact small1000 (by omega)
            have EW : Epn Ps a H (upd HY c2 (.lst (cs2.map V.int ++ [.int num]))) := (RX.ext.trans EY).write RX.nc hcY (fun q z => by cases z)
            refine ⟨cs2 ++ [num], some (.int num), ⟨EW, by rw [upd_ne rc2]; exact eY.lst RX.hr, by rw [upd_ne lc2]; exact eY.lst RX.hl, by rw [upd_same, List.map_append]; rfl, RX.nr, RX.nl, RX.nc, RX.rl, RX.rc, RX.lc, RX.perm, fun u hu => ?_, ?_⟩, ?_, ?_, rfl⟩
            · rcases List.mem_append.mp hu with q | q
              · exact RX.sub u q
              · rw [List.mem_singleton.mp q]
                exact hmem
            · rw [List.length_append, List.length_singleton]
              omega
            · rw [List.length_append, List.length_singleton]
              omega
            · obtain ⟨l3, xs3, e3, g3, g4⟩ := eY.lstT hF
              have e3' : fl = l3 := V.ref.inj e3
              subst e3'
              refine ⟨fl, xs3, rfl, ?_, L2.Paired.mapP g4 fun _ _ z => tupI_put hcY z⟩
              rcases g3 with (g3 | ⟨o, g3⟩) | g3
              · exact .inl (.inl (by rw [upd_ne nfc]; exact g3))
              · exact .inl (.inr ⟨o, by rw [upd_ne nfc]; exact g3⟩)
              · exact .inr g3
          · refine ⟨cs2, some (.int num), ⟨RX.ext.trans (eY.epn RX.ext.pen), eY.lst RX.hr, eY.lst RX.hl, eY.lst RX.hc, RX.nr, RX.nl, RX.nc, RX.rl, RX.rc, RX.lc, RX.perm, RX.sub, RX.few⟩, by omega, eY.lstT hF, rfl⟩
        · obtain ⟨cs2, y, RX, hcl2, hF, rfl⟩ := p
          refine ⟨⟨r, l, c2, _, _, cs2, _, _, RX, rfl⟩, ?_⟩
          show lstLen (HX l) < lstLen (H3 l)
          rw [RX.hl, R.hl]
          show ((ls.eraseIdx j).map V.int).length < (ls.map V.int).length
          rw [List.length_map, List.length_map]
          omega
      · -- return
        refine ⟨.ref r, rfl, .ref l, rfl, r, l, _, _, rfl, rfl, hr1, hl1, ?_, fun u hu => ?_⟩
        · rw [List.length_map, List.length_map]
          exact Nat.le_of_lt (small1000 (by omega))
        · have zu := Ext.new (o := .lst (rs.map V.int ++ ls.map V.int)) E1.tb hu
          have Eu := E1.trans (zu.epn E1.pen)
          refine ⟨u, _, rfl, .inl ⟨.inl (.inl upd_same), fun t htp => q (.ref t) (rs ++ ls) _ (Eu.trans ((Ext.new Eu.tb htp).epn Eu.pen)) ⟨t, rfl, ?_⟩ R.perm⟩⟩
          rw [List.map_append]
          exact .inl (.inl upd_same)
    · obtain ⟨v, hv, sz, hp⟩ := h
      exact ⟨v, hv, sz, fun l hl => let ⟨d, e, g1, g2, g3, g4, kk, e5, g6⟩ := hp l hl; ⟨d, e, g1, g2, g3, g4, kk, e5, hq _ _ g6⟩⟩
end
end Lf

set_option maxHeartbeats 2000000
namespace Lf
open PySem PySem.Spec PyProof.Rows L2 GxR GxA SrT
abbrev sStack : Stmt := topS 50
abbrev nStack : List Str := ["_law_pen_here", "_law_most", "_law_way", "_law_n", "_law_k", "_law_every", "_law_faces", "_law_turn", "_law_face", "_law_out", "_law_others", "_law_into", "_law_rest", "_law_point"]
theorem scStack : FnScope nStack ["_law_pen_here", "_law_most"] (defScope sStack) := ⟨rfl, rfl, rfl, by decide +kernel, rfl, by decide +kernel, by decide +kernel⟩
/-! ### the mathematics of a drawn face -/
theorem filt_split {α : Type} (p : α → Bool) : ∀ l : List α, (l.filter p).length + (l.filter fun x => !p x).length = l.length
  | [] => rfl
  | x :: l => by
    have := filt_split p l
    cases h : p x <;> simp [List.filter_cons, h] <;> omega
theorem RisB.nd {n : Nat} {g : List Int} (h : RisB n g) : g.Nodup := h.1.imp fun {a b} hab e => by omega
theorem in_rng {m : Nat} {i : Int} (h0 : 0 ≤ i) (h1 : i < (m : Int)) : i ∈ rng m := List.mem_map.mpr ⟨i.toNat, List.mem_range.mpr (by omega), by omega⟩
theorem others_len {n : Nat} {g : List Int} (h : RisB n g) : ((rng n).filter fun p => !decide (p ∈ g)).length = n - g.length := by
  have h1 : ((rng n).filter fun p => decide (p ∈ g)).Perm g := by
    refine (List.perm_ext_iff_of_nodup ((nd_rng n).filter _) h.nd).mpr fun z => ?_
    rw [List.mem_filter, decide_eq_true_eq]
    constructor
    · exact fun q => q.2
    · intro q
      exact ⟨in_rng (h.2 z q).1 (h.2 z q).2, q⟩
  have h2 := filt_split (fun p => decide (p ∈ g)) (rng n)
  rw [rng_len, h1.length_eq] at h2
  omega
theorem lt_of_le_nd {l : List Int} (h1 : l.Pairwise (· ≤ ·)) (h2 : l.Nodup) : l.Pairwise (· < ·) := List.Pairwise.imp₂ (fun a b h n => by omega) h1 h2
theorem rest_len {g : List Int} {o : Int} (nd : g.Nodup) (h : o ∈ g) : (g.filter fun p => !decide (p = o)).length + 1 = g.length := by
  have e := nd.filter (fun p => decide (p = o))
  have h1 : (g.filter fun p => decide (p = o)).Perm [o] := by
    refine (List.perm_ext_iff_of_nodup e (by simp)).mpr fun z => ?_
    rw [List.mem_filter, decide_eq_true_eq, List.mem_singleton]
    constructor
    · exact fun q => q.2
    · rintro rfl
      exact ⟨h, rfl⟩
  have h2 := filt_split (fun p => decide (p = o)) g
  rw [h1.length_eq, List.length_singleton] at h2
  omega
theorem swap_ok {n : Nat} {g ns : List Int} {o i : Int} (h : RisB n g) (ho : o ∈ g) (hi : i ∉ g) (h0 : 0 ≤ i) (h1 : i < (n : Int)) (pm : ns.Perm ((g.filter fun p => !decide (p = o)) ++ [i])) (sr : ns.Pairwise (· ≤ ·)) : RisB n ns ∧ ns.length = g.length := by
  have nd : ((g.filter fun p => !decide (p = o)) ++ [i]).Nodup := by
    refine List.nodup_append.mpr ⟨h.nd.filter _, by simp, fun a ha b hb e => ?_⟩
    rw [List.mem_singleton.mp hb] at e
    rw [e] at ha
    exact hi (List.mem_filter.mp ha).1
  refine ⟨⟨lt_of_le_nd sr (pm.nodup_iff.mpr nd), fun z hz => ?_⟩, ?_⟩
  · rcases List.mem_append.mp (pm.mem_iff.mp hz) with q | q
    · exact h.2 z (List.mem_filter.mp q).1
    · rw [List.mem_singleton.mp q]
      exact ⟨h0, h1⟩
  · rw [pm.length_eq, List.length_append, List.length_singleton]
    exact rest_len h.nd ho
theorem RisB.mono {n m : Nat} {g : List Int} (h : RisB n g) (hm : n ≤ m) : RisB m g := ⟨h.1, fun i hi => by have := h.2 i hi; omega⟩
/-- tuples of ints by their addresses -/
theorem keys_at {K : PySem.W.Frag} {H : Hp} : ∀ {ys : List V} {gss : List (List Int)}, Paired (TupI K H) ys gss → ∃ ks : List (Addr × List Int), ys = ks.map (fun p => V.ref p.1) ∧ ks.map (·.2) = gss ∧ ∀ p ∈ ks, SqT K H p.1 (p.2.map V.int)
  | _, _, .nil => ⟨[], rfl, rfl, fun p hp => absurd hp (by simp)⟩
  | _, _, .cons ⟨t, e, hs⟩ q => by
    obtain ⟨ks, e1, e2, e3⟩ := keys_at q
    refine ⟨(t, _) :: ks, by rw [List.map_cons, e, e1], by rw [List.map_cons, e2], fun p hp => ?_⟩
    rcases List.mem_cons.mp hp with z | z
    · rw [z]
      exact hs
    · exact e3 p z
section
variable {P : Program} {w : World} {K : PySem.W.Frag} {mg : Str → Option Value} {base : Heap} {Ps : Tbs} {H H' H0 : Hp} {k : Nat} {f c : Addr} {fd : FuncData}
def spStack (K : PySem.W.Frag) (Ps : Tbs) : Sp := fun vs H Q _ => ∃ (a : Addr) (m : Int), vs = [.ref a, .int m] ∧ Pen H a ∧ 1 ≤ m ∧ m ≤ 40 ∧ Tb Ps H ∧ ∀ (v : V) (n kk : Int) (fss : List (List Int)) (H' : Hp), Epn Ps a H H' → Stk K H' v n kk fss → StkOk n kk fss → fss.length ≤ 40 → Q v H'
/-- between two turns of the loop: all faces, the faces drawn -/
structure Fc (K : PySem.W.Frag) (Ps : Tbs) (a : Addr) (n k : Nat) (H0 H : Hp) (ev fa : Addr) (es ys : List V) (gss : List (List Int)) : Prop where
  ext : Epn Ps a H0 H
  he : H ev = some (.lst es)
  hf : H fa = some (.lst ys)
  ne : H0 ev = none
  nf : H0 fa = none
  ef : ev ≠ fa
  pe : Paired (TupI K H) es (allF n k)
  pf : Paired (TupI K H) ys gss
  ok : ∀ g ∈ gss, RisB n g ∧ g.length = k
theorem Fc.away {a : Addr} {n kk : Nat} {ev fa : Addr} {es ys : List V} {gss : List (List Int)} (h : Fc K Ps a n kk H0 H ev fa es ys gss) : ev ≠ a ∧ fa ≠ a := by
  obtain ⟨x, f, e⟩ := h.ext.p0
  exact ⟨Ne.symm (ne_of_none e h.ne), Ne.symm (ne_of_none e h.nf)⟩
theorem Fc.move {a : Addr} {n kk : Nat} {ev fa : Addr} {es ys : List V} {gss : List (List Int)} (h : Fc K Ps a n kk H0 H ev fa es ys gss) (e : Epn Ps a H H') : Fc K Ps a n kk H0 H' ev fa es ys gss :=
  ⟨h.ext.trans e, e.lst h.away.1 h.he, e.lst h.away.2 h.hf, h.ne, h.nf, h.ef, e.tups h.pe, e.tups h.pf, h.ok⟩
theorem Fc.put {a : Addr} {n kk : Nat} {ev fa : Addr} {es ys : List V} {gss : List (List Int)} {x : V} {g : List Int} (h : Fc K Ps a n kk H0 H ev fa es ys gss) (hx : TupI K H x g) (hg : RisB n g ∧ g.length = kk) : Fc K Ps a n kk H0 (upd H fa (.lst (ys ++ [x]))) ev fa es (ys ++ [x]) (gss ++ [g]) := by
  refine ⟨h.ext.write h.nf h.hf (fun q z => by cases z), by rw [upd_ne h.ef]; exact h.he, upd_same, h.ne, h.nf, h.ef, L2.Paired.mapP h.pe fun _ _ z => tupI_put h.hf z, paired_snoc (L2.Paired.mapP h.pf fun _ _ z => tupI_put h.hf z) (tupI_put h.hf hx), fun z hz => ?_⟩
  rcases List.mem_append.mp hz with q | q
  · exact h.ok z q
  · rw [List.mem_singleton.mp q]
    exact hg
theorem nd_le {α : Type} [BEq α] [LawfulBEq α] : ∀ {l D : List α}, l.Nodup → (∀ x ∈ l, x ∈ D) → l.length ≤ D.length
  | [], _, _, _ => Nat.zero_le _
  | x :: l, D, nd, h => by
    obtain ⟨n1, n2⟩ := List.nodup_cons.mp nd
    have hx := h x List.mem_cons_self
    have z := nd_le (l := l) (D := D.erase x) n2 fun y hy => (List.mem_erase_of_ne (show y ≠ x from fun e => n1 (by rw [← e]; exact hy))).mpr (h y (List.mem_cons_of_mem _ hy))
    rw [List.length_erase_of_mem hx] at z
    have := List.length_pos_of_mem hx
    rw [List.length_cons]
    omega
theorem lex_nd {l : List (List Int)} (h : l.Pairwise fun x y => lex x y = true) : l.Nodup := h.imp fun {a b} hab e => by
  rw [e, SrT.lex_irrefl] at hab
  cases hab
theorem pick {l : List Int} {d : Int} (d0 : 0 ≤ d) (d1 : d < (l.length : Int)) : ∃ z ∈ l, atI (l.map V.int) d = some (.int z) := by
  have hd : d.toNat < l.length := by omega
  exact ⟨_, List.getElem_mem hd, atI_int d0 (by rw [List.getElem?_map, List.getElem?_eq_getElem hd]; rfl)⟩
theorem pickT {K : PySem.W.Frag} {H : Hp} {ys : List V} {gss : List (List Int)} (p : Paired (TupI K H) ys gss) {d : Int} (d0 : 0 ≤ d) (d1 : d < (ys.length : Int)) : ∃ x g, g ∈ gss ∧ TupI K H x g ∧ atI ys d = some x := by
  have hd : d.toNat < ys.length := by omega
  obtain ⟨g, hg, hI⟩ := paired_get p (List.getElem?_eq_getElem hd)
  exact ⟨_, g, List.mem_of_getElem? hg, hI, atI_int d0 (List.getElem?_eq_getElem hd)⟩
theorem ok_stack {fD cD fA cA : Addr} {fdD fdA : FuncData} (D : Def K mg "_law_stack" sStack ["_law_pen_here", "_law_most"] f fd c) (DD : Def K mg "_law_draw" sDraw ["_law_pen_here", "_law_many"] fD fdD cD) (GD : FnOk P w K mg base CX0 k fD fdD ["_law_pen_here", "_law_many"] spDraw)
    (DA : Def K mg "_law_all" sAll ["_law_n", "_law_k"] fA fdA cA) (GA : FnOk P w K mg base CX0 k fA fdA ["_law_n", "_law_k"] (spAll K Ps)) (mr : mg "range" = none) (ml : mg "len" = none) (mt : mg "tuple" = none) (ms : mg "sorted" = none) (me : mg "set" = none) (mm : mg "min" = none) :
    FnOk P w K mg base CX0 (k + 1) f fd ["_law_pen_here", "_law_most"] (spStack K Ps) := by
  refine D.ok (k := k) scStack (fun vs H Q E h => ?_) (fun A outer s H vs Q E hr h => ?_)
  · obtain ⟨a, m, rfl, _⟩ := h
    rfl
  · obtain ⟨a, m, rfl, hP, m1, m2, ht, q⟩ := h
    refine ⟨_, (pss_cons (ps_set (i := 2) scStack.nd rfl (.inl rfl) (pcl DD GD hr (pa_cons (pv 0) (pa_cons pe_int pa_nil))))
      (pss_cons (ps_set (i := 3) scStack.nd rfl (.inl rfl) (pe_ix ix_list (pe_lst (pa_cons pe_int (pa_cons pe_int (pa_cons pe_int (pa_cons pe_int (pa_cons pe_int (pa_cons pe_int (pa_cons pe_int (pa_cons pe_int pa_nil))))))))) (pcl DD GD hr (pa_cons (pv 0) (pa_cons pe_int pa_nil))) (fun _ _ => rfl)))
      (pss_cons (ps_set (i := 4) scStack.nd rfl (.inl rfl) (pe_callB (call_min2 rfl) (by rfl) mm (by decide +kernel) (pa_cons (pv 3) (pa_cons (pe_ix ix_list (pe_lst (pa_cons pe_int (pa_cons pe_int (pa_cons pe_int (pa_cons pe_int (pa_cons pe_int (pa_cons pe_int (pa_cons pe_int pa_nil)))))))) (pcl DD GD hr (pa_cons (pv 0) (pa_cons pe_int pa_nil))) (fun _ _ => rfl)) pa_nil))))
      (pss_cons (ps_set (i := 5) scStack.nd rfl (.inl rfl) (pcl DA GA hr (pa_cons (pv 3) (pa_cons (pv 4) pa_nil))))
      (pss_cons (ps_set (i := 6) scStack.nd rfl (.inl rfl) (pe_lst (pa_cons (pe_ix ix_list (pv 5) (pcl DD GD hr (pa_cons (pv 0) (pa_cons (pe_callB (call_lenS (K := K) rfl) (by rfl) ml PySem.boot_len (pa_cons (pv 5) pa_nil)) pa_nil))) (fun _ _ => rfl)) pa_nil)))
      (pss_cons (ps_for PassesOwn.never rfl (pi_range1 (by rfl) mr (pa_cons (pcl DD GD hr (pa_cons (pv 0) (pa_cons (pv 1) pa_nil))) pa_nil)) (pg_name (i := 7) scStack.nd rfl (.inl rfl))
      (pss_cons (ps_set (i := 8) scStack.nd rfl (.inr rfl) (pe_ix ix_list (pv 6) (pcl DD GD hr (pa_cons (pv 0) (pa_cons (pe_callB (call_lenS (K := K) rfl) (by rfl) ml PySem.boot_len (pa_cons (pv 6) pa_nil)) pa_nil))) (fun _ _ => rfl)))
      (pss_one (ps_if (PW.pt (pw_or (pt_cmpR op_eq (pv 2) pe_int (nomark _)) (pw_or (pt_cmpR op_eq (pv 4) pe_int (nomark _)) (pw_or1 (pt_cmpR op_eq (pv 4) (pv 3) (nomark _))))))
      (pss_one (ps_expr (pe_bm PySem.F.plainAttrs_list PySem.F.slot_list_append PySem.F.type_list_append mt_append (pv 6) (pa_cons (pe_ix ix_list (pv 5) (pcl DD GD hr (pa_cons (pv 0) (pa_cons (pe_callB (call_lenS (K := K) rfl) (by rfl) ml PySem.boot_len (pa_cons (pv 5) pa_nil)) pa_nil))) (fun _ _ => rfl)) pa_nil))))
      (pss_cons (ps_set (i := 9) scStack.nd rfl (.inr rfl) (pe_ix ix_tup (pv 8) (pcl DD GD hr (pa_cons (pv 0) (pa_cons (pv 4) pa_nil))) (fun _ _ => rfl)))
      (pss_cons (ps_setLc (i := 10) (own := [("_law_point", 13)]) (g := gName 13) (by rfl) scStack.nd rfl rfl (sw_true rfl rfl rfl (by decide +kernel)) (pi_range1 (by rfl) mr (pa_cons (pv 3) pa_nil)) (blkOk_by (N := nStack) (sc := defScope sStack) (by decide +kernel)) (fun _ _ _ _ _ => pg_name (i := 13) scStack.nd rfl (Or.inl rfl)) (fun _ _ _ _ _ => pts_one (pt_cmpR (show OpR _ _ (rIn K true) from op_notIn_seq) (pv 13) (pv 8) (by with_unfolding_all rfl))) (fun _ _ _ _ _ => pv 13))
      (pss_cons (ps_set (i := 11) scStack.nd rfl (.inl rfl) (pe_ix ix_list (pv 10) (pcl DD GD hr (pa_cons (pv 0) (pa_cons (pe_op op_sub (pv 3) (pv 4)) pa_nil))) (fun _ _ => rfl)))
      (pss_cons (ps_setLc (i := 12) (own := [("_law_point", 13)]) (g := gName 13) (by rfl) scStack.nd rfl rfl (sw_true rfl rfl rfl (by decide +kernel)) (pi_tup (pv 8)) (blkOk_by (N := nStack) (sc := defScope sStack) (by decide +kernel)) (fun _ _ _ _ _ => pg_name (i := 13) scStack.nd rfl (Or.inl rfl)) (fun _ _ _ _ _ => pts_one (pt_cmpR op_ne (pv 13) (pv 9) (nomark _))) (fun _ _ _ _ _ => pv 13))
      (pss_one (ps_expr (pe_bm PySem.F.plainAttrs_list PySem.F.slot_list_append PySem.F.type_list_append mt_append (pv 6) (pa_cons (pe_callTy call_tuple_of (by rfl) mt (by decide +kernel) (pa_cons (pe_callB cr_sortedI (by rfl) ms (by decide +kernel) (pa_cons (pe_op op_cat (pv 12) (pe_lst (pa_cons (pv 11) pa_nil))) pa_nil)) pa_nil)) pa_nil))))))))))))
      (pss_cons (ps_if (PW.pt (pw_and (pt_cmpR op_eq (pv 2) pe_int (nomark _)) (pw_and (pt_cmpR op_lt (pv 4) (pv 3) (nomark _)) (pw_and1 (pt_cmpR op_lt (pv 4) (pv 1) (nomark _)))))) (pss_one (ps_set (i := 6) scStack.nd rfl (.inl rfl) (pcl DA GA hr (pa_cons (pe_op op_add (pv 4) pe_int) (pa_cons (pv 4) pa_nil))))) pss_nil)
      (pss_one (ps_ret (pe_tup (pa_cons (pv 3) (pa_cons (pv 4) (pa_cons (pe_callTy call_tuple_of (by rfl) mt (by decide +kernel) (pa_cons (pe_callB (cr_sortS rfl hr.units) (by rfl) ms (by decide +kernel) (pa_cons (pe_callTy (cr_setOfT rfl hr.units) (by rfl) me (by decide +kernel) (pa_cons (pv 6) pa_nil)) pa_nil)) pa_nil)) pa_nil))))))))))))), ?_⟩
    -- way
    refine ⟨.ref a, rfl, a, 7, rfl, hP, by decide, by decide, fun xa fa1 way w0 w1 => ?_⟩
    have e1 : Epn Ps a H (upd H a (.lst [.int xa, .int fa1])) := Epn.draw ht hP
    generalize upd H a (.lst [.int xa, .int fa1]) = H1 at *
    -- n
    refine ⟨(by show 8 ≤ sizeLine; decide), fun ln hln => ?_⟩
    have e2 := e1.trans ((Ext.new (o := .lst [V.int 5, V.int 4, V.int 6, V.int 3, V.int 7, V.int 8, V.int 2, V.int 1]) e1.tb hln).epn e1.pen)
    have g2 : (upd H1 ln (.lst [V.int 5, V.int 4, V.int 6, V.int 3, V.int 7, V.int 8, V.int 2, V.int 1])) ln = some (.lst [V.int 5, V.int 4, V.int 6, V.int 3, V.int 7, V.int 8, V.int 2, V.int 1]) := upd_same
    have n2 : ln ≠ a := by
      obtain ⟨x, f, e⟩ := e1.pen
      exact Ne.symm (ne_of_none e hln)
    refine ⟨.ref a, rfl, a, 8, rfl, e2.pen, by decide, by decide, fun xb fb1 d d0 d1 => ?_⟩
    have e3 := Epn.draw e2.tb e2.pen (x := xb) (f := fb1)
    have g3 := e3.lst n2 g2
    have e3' := e2.trans e3
    obtain ⟨n, hn, hnat⟩ := pick (l := [5, 4, 6, 3, 7, 8, 2, 1]) d0 d1
    have hn18 : 1 ≤ n ∧ n ≤ 8 := by
      have : ∀ z ∈ ([5, 4, 6, 3, 7, 8, 2, 1] : List Int), 1 ≤ z ∧ z ≤ 8 := by decide
      exact this n hn
    refine ⟨ln, _, d, .int n, rfl, rfl, .inl (.inl g3), hnat, ?_⟩
    obtain ⟨nN, rfl⟩ := Int.eq_ofNat_of_zero_le (show 0 ≤ n by omega)
    clear hnat g3 g2 n2 e2
    generalize upd (upd H1 ln (.lst [V.int 5, V.int 4, V.int 6, V.int 3, V.int 7, V.int 8, V.int 2, V.int 1])) a (.lst [.int xb, .int fb1]) = H2 at *
    -- k
    refine ⟨.int nN, rfl, (by show 7 ≤ sizeLine; decide), fun lk hlk => ?_⟩
    have e4 := e3'.trans ((Ext.new (o := .lst [V.int 2, V.int 3, V.int 1, V.int 4, V.int 3, V.int 2, V.int 0]) e3'.tb hlk).epn e3'.pen)
    have g4 : (upd H2 lk (.lst [V.int 2, V.int 3, V.int 1, V.int 4, V.int 3, V.int 2, V.int 0])) lk = some (.lst [V.int 2, V.int 3, V.int 1, V.int 4, V.int 3, V.int 2, V.int 0]) := upd_same
    have n4 : lk ≠ a := by
      obtain ⟨x, f, e⟩ := e3'.pen
      exact Ne.symm (ne_of_none e hlk)
    refine ⟨.ref a, rfl, a, 7, rfl, e4.pen, by decide, by decide, fun xc fc1 u u0 u1 => ?_⟩
    have e5 := Epn.draw e4.tb e4.pen (x := xc) (f := fc1)
    have g5 := e5.lst n4 g4
    have e5' := e4.trans e5
    obtain ⟨kz, hk, hkat⟩ := pick (l := [2, 3, 1, 4, 3, 2, 0]) u0 u1
    have hk04 : 0 ≤ kz ∧ kz ≤ 4 := by
      have : ∀ z ∈ ([2, 3, 1, 4, 3, 2, 0] : List Int), 0 ≤ z ∧ z ≤ 4 := by decide
      exact this kz hk
    refine ⟨lk, _, u, .int kz, rfl, rfl, .inl (.inl g5), hkat, (nN : Int), kz, rfl, ?_⟩
    obtain ⟨kN, hkN⟩ := Int.eq_ofNat_of_zero_le (show 0 ≤ (if kz < (nN : Int) then kz else (nN : Int)) by split <;> omega)
    have hkle : kN ≤ nN ∧ kN ≤ 4 := by
      have h1 : (if kz < (nN : Int) then kz else (nN : Int)) ≤ nN := by split <;> omega
      have h2 : (if kz < (nN : Int) then kz else (nN : Int)) ≤ 4 := by split <;> omega
      omega
    rw [hkN]
    clear hkat g5 g4 n4 e4 hkN hk
    generalize upd (upd H2 lk (.lst [V.int 2, V.int 3, V.int 1, V.int 4, V.int 3, V.int 2, V.int 0])) a (.lst [.int xc, .int fc1]) = H3 at *
    -- every
    refine ⟨.int nN, rfl, .int kN, rfl, nN, kN, rfl, by omega, by omega, e5'.tb, fun ev es H4 x4 nev hev hes => ?_⟩
    have E4 := e5'.trans (x4.epn e5'.pen)
    have nea : ev ≠ a := by
      intro z
      obtain ⟨x, f, e⟩ := e5'.pen
      rw [z] at nev
      rw [nev] at e
      cases e
    have hesl : es.length ≤ 256 := by
      rw [Paired.length hes]
      exact Nat.le_trans (allF_len nN kN) (Nat.pow_le_pow_right (by omega) (show nN ≤ 8 by omega))
    have hes0 : 0 < es.length := by
      rw [Paired.length hes]
      exact allF_ne hkle.1
    have okF : ∀ g ∈ allF nN kN, RisB nN g ∧ g.length = kN := fun g hg => mem_allF.mp hg
    -- faces
    refine ⟨.ref ev, rfl, .ref a, rfl, .ref ev, rfl, ev, _, rfl, .inl (.inl (.inl hev)), a, _, rfl, E4.pen, by omega, by omega, fun xd fd1 v v0 v1 => ?_⟩
    have e6 := Epn.draw E4.tb E4.pen (x := xd) (f := fd1)
    have hev6 := e6.lst nea hev
    have hes6 := e6.tups hes
    obtain ⟨x0, g0, hg0, hI0, hat0⟩ := pickT hes6 v0 v1
    refine ⟨ev, es, v, x0, rfl, rfl, .inl (.inl hev6), hat0, (by show 1 ≤ sizeLine; decide), fun fa nfa => ?_⟩
    have E6 := E4.trans e6
    have e7 := Ext.new (o := .lst [x0]) E6.tb nfa
    have F0 : Fc K Ps a nN kN H _ ev fa es [x0] [g0] := ⟨E6.trans (e7.epn E6.pen), e7.lst hev6, upd_same, e5'.free nev, E6.free nfa, ne_of_none hev6 nfa, e7.tups hes6, .cons (e7.tupI hI0) .nil, fun g hg => by rw [List.mem_singleton.mp hg]; exact okF g0 hg0⟩
    clear hat0 hev6 hes6
    generalize upd (upd H4 a (.lst [.int xd, .int fd1])) fa (.lst [x0]) = H5 at *
    -- the loop
    refine ⟨.ref a, rfl, .int m, rfl, a, m, rfl, F0.ext.pen, m1, by omega, fun xe fe1 tn tn0 tn1 => ⟨tn, rfl, by omega, by omega, ?_⟩⟩
    have F1 := F0.move (Epn.draw F0.ext.tb F0.ext.pen (x := xe) (f := fe1))
    generalize upd H5 a (.lst [.int xe, .int fe1]) = H6 at *
    refine for_range (lo := 0) (n := tn.toNat) (fun i σ HX => ∃ (ys : List V) (gss : List (List Int)) (y7 y8 y9 y10 y11 y12 y13 : Option V), Fc K Ps a nN kN H HX ev fa es ys gss ∧ ys.length = i + 1 ∧ σ = [some (.ref a), some (.int m), some (.int way), some (.int nN), some (.int kN), some (.ref ev), some (.ref fa), y7, y8, y9, y10, y11, y12, y13])
      ⟨[x0], [g0], none, none, none, none, none, none, none, F1, rfl, rfl⟩ (fun i σ HX hi p => ?_) (fun σ HX p => ?_)
    · obtain ⟨ys, gss, y7, y8, y9, y10, y11, y12, y13, F, hyl, rfl⟩ := p
      have hi' : i < tn.toNat := hi
      refine ⟨.ref fa, rfl, .ref a, rfl, .ref fa, rfl, fa, _, rfl, .inl (.inl (.inl F.hf)), a, _, rfl, F.ext.pen, by omega, by omega, fun xf ff d d0 d1 => ?_⟩
      have F2 := F.move (Epn.draw F.ext.tb F.ext.pen (x := xf) (f := ff))
      generalize upd HX a (.lst [.int xf, .int ff]) = HY at *
      obtain ⟨x, g, hg, hI, hat⟩ := pickT F2.pf d0 d1
      obtain ⟨hgR, hgL⟩ := F2.ok g hg
      refine ⟨fa, ys, d, x, rfl, rfl, .inl (.inl F2.hf), hat, ?_⟩
      refine ⟨.int way, rfl, rfl, _, rfl, ite2 (fun e1 => iteT ?_) (fun e1 => ⟨.int kN, rfl, rfl, _, rfl, ite2 (fun e2 => iteT ?_) (fun e2 => ⟨.int kN, rfl, .int nN, rfl, rfl, _, rfl, ite2 (fun e3 => ?_) (fun e3 => ?_)⟩)⟩)⟩
      rotate_left 3
      · have hk1 : 1 ≤ kN := by
          have z : ¬ (V.int (kN : Int) = V.int 0) := fun z => e2 (decide_eq_true z)
          have z2 : kN ≠ 0 := fun q => z (by rw [q]; rfl)
          omega
        have hkn : kN < nN := by
          have z : ¬ (V.int (kN : Int) = V.int (nN : Int)) := fun z => e3 (decide_eq_true z)
          have z2 : kN ≠ nN := fun q => z (by rw [q])
          omega
        obtain ⟨t, rfl, hT⟩ := id hI
        -- out
        refine ⟨.ref t, rfl, .ref a, rfl, .int kN, rfl, a, _, rfl, F2.ext.pen, by omega, by omega, fun xg fg v v0 v1 => ?_⟩
        have m3 := Epn.draw F2.ext.tb F2.ext.pen (x := xg) (f := fg)
        have F3 := F2.move m3
        have hT3 := m3.sqT hT
        generalize upd HY a (.lst [.int xg, .int fg]) = HZ at *
        obtain ⟨o, ho, hoat⟩ := pick (l := g) v0 (by omega)
        refine ⟨t, _, v, .int o, rfl, rfl, hT3, hoat, ?_⟩
        -- others
        refine ⟨.int nN, rfl, (nN : Int), rfl, by omega, by omega, fun D0 hD => lc_range (lo := 0) (n := ((nN : Int)).toNat) (fun j HW => CP Ps FI HZ D0 ((rng j).filter fun p => !decide (p ∈ g)) j HW) (CP.start F3.ext.tb hD) (fun j HW hj p => ?_) (fun HW p => ?_)⟩
        · have hj' : j < ((nN : Int)).toNat := hj
          refine ⟨rfl, .int (0 + j), rfl, .ref t, rfl, t, _, rfl, .inr (p.ext.sqT hT3), rfl, flat_ints g, _, rfl, ?_⟩
          show if (!inV (.int (0 + (j : Int))) (g.map V.int)) = true then _ else _
          rw [inV_ints, Int.zero_add]
          have hft : (rng (j + 1)).filter (fun p => !decide (p ∈ g)) = (rng j).filter (fun p => !decide (p ∈ g)) ++ (if (!decide ((j : Int) ∈ g)) = true then [(j : Int)] else []) := by
            unfold rng
            rw [List.range_succ, List.map_append, List.filter_append]
            cases hp : decide ((j : Int) ∈ g) <;> simp [hp]
          refine ite2 (fun hc => ?_) (fun hc => ?_)
          · have r := CP.put (stbI (K := K)) hD (by omega) p (show FI HW (.int (j : Int)) j from rfl)
            rw [hft, if_pos hc]
            exact ⟨.int j, rfl, r⟩
          · rw [hft, if_neg hc, List.append_nil]
            exact p.mono (Nat.le_succ j)
        obtain ⟨os, o1, o2, o3⟩ := p.at_
        rw [Int.toNat_natCast] at o2
        rw [paired_ints o2] at o1
        have F4 := F3.move (p.ext.epn F3.ext.pen)
        have hT4 := p.ext.sqT hT3
        have nDa : D0 ≠ a := by
          obtain ⟨xx, f, e⟩ := F3.ext.pen
          exact Ne.symm (ne_of_none e hD)
        have olen : ((rng nN).filter fun p => !decide (p ∈ g)).length = nN - kN := by rw [others_len hgR, hgL]
        -- into
        refine ⟨.ref D0, rfl, .ref a, rfl, .int nN, rfl, .int kN, rfl, (nN : Int), (kN : Int), rfl, rfl, a, _, rfl, F4.ext.pen, by omega, by omega, fun xh fh z z0 z1 => ?_⟩
        have m5 := Epn.draw F4.ext.tb F4.ext.pen (x := xh) (f := fh)
        have F5 := F4.move m5
        have hT5 := m5.sqT hT4
        have o5 := m5.lst nDa o1
        generalize upd HW a (.lst [.int xh, .int fh]) = HV at *
        obtain ⟨io, hio, hioat⟩ := pick (l := (rng nN).filter fun p => !decide (p ∈ g)) z0 (by omega)
        obtain ⟨hio1, hio2⟩ := List.mem_filter.mp hio
        have hnot : io ∉ g := by simpa using hio2
        obtain ⟨io0, ioN⟩ := mem_rng hio1
        refine ⟨D0, _, z, .int io, rfl, rfl, .inl (.inl o5), hioat, ?_⟩
        -- rest
        refine ⟨.ref t, rfl, t, rfl, ⟨_, hT5⟩, fun D1 hD1 => lc_tup (K := K) (a := t) (xs := g.map V.int) (fun j HU => CP Ps FI HV D1 ((g.take j).filter fun p => !decide (p = o)) j HU) (CP.start F5.ext.tb hD1) (fun j HU _ p => p.ext.sqT hT5) (fun j yv HU hyv p => ?_) (fun HU p => ?_)⟩
        · obtain ⟨y, hy, rfl⟩ := map_int hyv
          have hj : j < g.length := (List.getElem?_eq_some_iff.mp hy).1
          refine ⟨rfl, .int y, rfl, .int o, rfl, rfl, _, rfl, ?_⟩
          have hft := filt_take (fun p : Int => !decide (p = o)) hy
          have ed : decide (V.int y = V.int o) = decide (y = o) := by
            by_cases q : y = o
            · rw [q]
              simp
            · have q' : ¬ V.int y = V.int o := fun z => q (V.int.inj z)
              simp [q]
          rw [ed]
          refine ite2 (fun hc => ?_) (fun hc => ?_)
          · have r := CP.put (stbI (K := K)) hD1 (by omega) p (show FI HU (.int y) y from rfl)
            rw [hft, if_pos hc]
            exact ⟨.int y, rfl, r⟩
          · rw [hft, if_neg hc, List.append_nil]
            exact p.mono (Nat.le_succ j)
        obtain ⟨rs, r1, r2, r3⟩ := p.at_
        rw [List.length_map, List.take_length] at r2
        rw [paired_ints r2] at r1
        have F6 := F5.move (p.ext.epn F5.ext.pen)
        -- append
        refine ⟨.ref fa, rfl, .inl ⟨rfl, _, .inl (.inl F6.hf)⟩, .ref D1, rfl, .int io, rfl, (by show 1 ≤ sizeLine; decide), fun l1 hl1 => ?_⟩
        have x7 := Ext.new (o := .lst [.int io]) F6.ext.tb hl1
        have hrl := rest_len hgR.nd ho
        refine ⟨D1, l1, _, _, rfl, rfl, x7.lst r1, upd_same, ?_, fun l2 hl2 => ?_⟩
        · rw [List.length_map, List.length_singleton]
          exact Nat.le_of_lt (small1000 (by omega))
        have x8 := Ext.new (o := .lst (((g.filter fun p => !decide (p = o)).map V.int) ++ [.int io])) x7.tb hl2
        refine ⟨l2, (g.filter fun p => !decide (p = o)) ++ [io], rfl, ?_, fun ns l3 pm sr hl3 => ?_⟩
        · rw [List.map_append]
          exact .inl (.inl upd_same)
        have x9 := Ext.new (o := .lst (ns.map V.int)) x8.tb hl3
        refine ⟨l3, _, rfl, .inl ⟨.inl (.inl upd_same), fun t2 ht2 => ?_⟩⟩
        have x10 := Ext.new (o := .tup (ns.map V.int)) x9.tb ht2
        have F7 := F6.move ((x7.trans (x8.trans (x9.trans x10))).epn F6.ext.pen)
        refine ⟨fa, ys, .ref t2, rfl, rfl, F7.hf, small1000 (by omega), ?_⟩
        have hnew := swap_ok hgR ho hnot io0 ioN pm sr
        refine ⟨ys ++ [.ref t2], gss ++ [ns], _, _, _, _, _, _, _, F7.put ⟨t2, rfl, .inl (.inl upd_same)⟩ ⟨hnew.1, by rw [hnew.2]; exact hgL⟩, by simp [hyl], rfl⟩
      all_goals
        refine ⟨.ref fa, rfl, .inl ⟨rfl, _, .inl (.inl F2.hf)⟩, .ref ev, rfl, .ref a, rfl, .ref ev, rfl, ev, _, rfl, .inl (.inl (.inl F2.he)), a, _, rfl, F2.ext.pen, by omega, by omega, fun xg fg v v0 v1 => ?_⟩
        have F3 := F2.move (Epn.draw F2.ext.tb F2.ext.pen (x := xg) (f := fg))
        generalize upd HY a (.lst [.int xg, .int fg]) = HZ at *
        obtain ⟨x2, g2, hg2, hI2, hat2⟩ := pickT F3.pe v0 v1
        refine ⟨ev, es, v, x2, rfl, rfl, .inl (.inl F3.he), hat2, fa, ys, x2, rfl, rfl, F3.hf, small1000 (by omega), ?_⟩
        exact ⟨ys ++ [x2], gss ++ [g2], _, _, _, _, _, _, _, F3.put hI2 (okF g2 hg2), by simp [hyl], rfl⟩
    · obtain ⟨ys, gss, y7, y8, y9, y10, y11, y12, y13, F, hyl, rfl⟩ := p
      -- what is told of any faces
      have fin : ∀ (HX : Hp) (fb : Addr) (ys : List V) (gss : List (List Int)), Epn Ps a H HX → HX fb = some (.lst ys) → Paired (TupI K HX) ys gss → (∀ g ∈ gss, RisB nN g ∧ g.length = kN) → 1 ≤ ys.length → ys.length ≤ 40 →
          ∃ (l : Addr) (ks : List (Addr × List Int)), [V.ref fb] = [V.ref l] ∧ SqL K HX l (ks.map fun p => V.ref p.1) ∧ (∀ p ∈ ks, SqT K HX p.1 (p.2.map V.int)) ∧ ks.length < 64 ∧ ∀ (sa : Addr) (L : List (Addr × List Int)), HX sa = none → (∀ p ∈ L, p ∈ ks) → (∀ p ∈ ks, p.2 ∈ L.map (·.2)) →
            ∃ (sb : Addr) (L' : List (Addr × List Int)), [V.ref sa] = [V.ref sb] ∧ (upd HX sa (SetTO P w sa L)) sb = some (SetTO P w sb L') ∧ (∀ p ∈ L', SqT K (upd HX sa (SetTO P w sa L)) p.1 (p.2.map V.int)) ∧ ∀ (zs : List V) (hss : List (List Int)) (p : Addr), Paired (TupI K (upd HX sa (SetTO P w sa L))) zs hss → hss.Pairwise (fun x y => lex x y = true) → (∀ z, z ∈ hss ↔ z ∈ L'.map (·.2)) → zs.length < 64 → (upd HX sa (SetTO P w sa L)) p = none →
              ∃ (p2 : Addr) (us : List V), [V.ref p] = [V.ref p2] ∧ ((SqL K (upd (upd HX sa (SetTO P w sa L)) p (.lst zs)) p2 us ∧ ∀ l3, (upd (upd HX sa (SetTO P w sa L)) p (.lst zs)) l3 = none → [V.int nN, .int kN, .ref l3].length ≤ sizeLine ∧ ∀ l4, (upd (upd (upd HX sa (SetTO P w sa L)) p (.lst zs)) l3 (.tup us)) l4 = none → Q (.ref l4) (upd (upd (upd (upd HX sa (SetTO P w sa L)) p (.lst zs)) l3 (.tup us)) l4 (.tup [.int nN, .int kN, .ref l3]))) ∨
                (SqT K (upd (upd HX sa (SetTO P w sa L)) p (.lst zs)) p2 us ∧ [V.int nN, .int kN, .ref p2].length ≤ sizeLine ∧ ∀ l4, (upd (upd HX sa (SetTO P w sa L)) p (.lst zs)) l4 = none → Q (.ref l4) (upd (upd (upd HX sa (SetTO P w sa L)) p (.lst zs)) l4 (.tup [.int nN, .int kN, .ref p2])))) := by
        intro HX fb ys gss EX hfb hp hok l1 l40
        obtain ⟨ks, rfl, k2, k3⟩ := keys_at hp
        refine ⟨fb, ks, rfl, .inl (.inl hfb), k3, by have := l40; simp only [List.length_map] at this; omega, fun sa L nsa hL1 hL2 => ?_⟩
        have y1 := Ext.new (o := SetTO P w sa L) EX.tb nsa
        refine ⟨sa, L, rfl, upd_same, fun p hp2 => y1.sqT (k3 p (hL1 p hp2)), fun zs hss p hz hss1 hss2 hzl np => ?_⟩
        have y2 := Ext.new (o := .lst zs) y1.tb np
        refine ⟨p, zs, rfl, .inl ⟨.inl (.inl upd_same), fun l3 nl3 => ⟨(by show 3 ≤ sizeLine; decide), fun l4 nl4 => ?_⟩⟩⟩
        have y3 := Ext.new (o := .tup zs) y2.tb nl3
        have y4 := Ext.new (o := .tup [.int nN, .int kN, .ref l3]) y3.tb nl4
        have memz : ∀ z, z ∈ hss → RisB nN z ∧ z.length = kN := fun z hz2 => by
          obtain ⟨q1, hq1, rfl⟩ := List.mem_map.mp ((hss2 z).mp hz2)
          refine hok _ ?_
          rw [← k2]
          exact List.mem_map.mpr ⟨q1, hL1 q1 hq1, rfl⟩
        have hssl : 1 ≤ hss.length := by
          cases ks with
          | nil => simp at l1
          | cons q1 ks =>
            have := (hss2 q1.2).mpr (hL2 q1 List.mem_cons_self)
            exact List.length_pos_of_mem this
        refine q (.ref l4) (nN : Int) (kN : Int) hss _ (EX.trans ((y1.trans (y2.trans (y3.trans y4))).epn EX.pen)) ⟨l4, l3, zs, rfl, .inl (.inl upd_same), ?_, (y2.trans (y3.trans y4)).tups hz⟩
          ⟨by omega, by omega, by omega, by omega, by omega, hssl, by rw [← Paired.length hz]; omega, fun z hz2 => by rw [(memz z hz2).2], fun z hz2 => (memz z hz2).1.1, fun z hz2 => (memz z hz2).1.2, hss1⟩ ?_
        · exact y4.sqT (.inl (.inl upd_same))
        · have z1 := nd_le (lex_nd hss1) (D := ks.map (·.2)) fun z hz2 => by
            obtain ⟨q1, hq1, e1⟩ := List.mem_map.mp ((hss2 z).mp hz2)
            exact List.mem_map.mpr ⟨q1, hL1 q1 hq1, e1⟩
          simp only [List.length_map] at z1 l40
          omega
      refine ⟨.int way, rfl, rfl, _, rfl, ite2 (fun e1 => ⟨.int kN, rfl, .int nN, rfl, (kN : Int), (nN : Int), rfl, rfl, _, rfl, ite2 (fun e2 => ⟨.int kN, rfl, .int m, rfl, (kN : Int), m, rfl, rfl, _, rfl, ite2 (fun e3 => ?_) (fun e3 => ?_)⟩) (fun e2 => iteF ?_)⟩) (fun e1 => iteF ?_)⟩
      · have e2' : (kN : Int) < (nN : Int) := of_decide_eq_true e2
        refine ⟨.int kN, rfl, (kN : Int), 1, rfl, rfl, .int kN, rfl, kN + 1, kN, by simp, by omega, by omega, F.ext.tb, fun fb zs HZ xZ nfb hfb hzp => ?_⟩
        have hzl := Paired.length hzp
        have h32 : (allF (kN + 1) kN).length ≤ 2 ^ 5 := Nat.le_trans (allF_len _ _) (Nat.pow_le_pow_right (by omega) (by omega))
        have hpos := allF_ne (n := kN + 1) (k := kN) (by omega)
        exact ⟨.int nN, rfl, .int kN, rfl, .ref fb, rfl, fin HZ fb zs _ (F.ext.trans (xZ.epn F.ext.pen)) hfb hzp (fun g hg => let z := mem_allF.mp hg; ⟨z.1.mono (by omega), z.2⟩) (by omega) (by omega)⟩
      all_goals exact ⟨.int nN, rfl, .int kN, rfl, .ref fa, rfl, fin HX fa ys gss F.ext F.hf F.pf F.ok (by omega) (by omega)⟩
end
end Lf

set_option maxHeartbeats 2000000
namespace Lf
open PySem PySem.Spec PyProof.Rows L2 GxR GxA SrT
/-! ### parts: the mathematics -/
theorem sub_of : ∀ {fc g : List Int}, fc.Pairwise (· < ·) → g.Pairwise (· < ·) → (∀ x ∈ g, x ∈ fc) → g.Sublist fc
  | [], [], _, _, _ => .slnil
  | [], x :: g, _, _, h => absurd (h x List.mem_cons_self) (by simp)
  | y :: r, [], _, _, _ => List.nil_sublist _
  | y :: r, x :: g, hf, hg, h => by
    obtain ⟨f1, f2⟩ := List.pairwise_cons.mp hf
    obtain ⟨g1, g2⟩ := List.pairwise_cons.mp hg
    rcases List.mem_cons.mp (h x List.mem_cons_self) with e | e
    · subst e
      refine List.Sublist.cons_cons _ (sub_of f2 g2 fun z hz => ?_)
      rcases List.mem_cons.mp (h z (List.mem_cons_of_mem _ hz)) with q | q
      · have := g1 z hz
        omega
      · exact q
    · refine List.Sublist.cons _ (sub_of f2 hg fun z hz => ?_)
      have hxy := f1 x e
      rcases List.mem_cons.mp (h z hz) with q | q
      · rcases List.mem_cons.mp hz with q2 | q2
        · rw [q2]
          exact e
        · have := g1 z q2
          omega
      · exact q
theorem subs_nodup : ∀ (m : Nat) (l : List Int), l.length = m → l.Nodup → (subsL l).Nodup
  | 0, l, hl, _ => by
    rw [List.length_eq_zero_iff.mp hl]
    show ([[]] : List (List Int)).Nodup
    simp
  | m + 1, l, hl, nd => by
    rcases List.eq_nil_or_concat l with rfl | ⟨r, p, rfl⟩
    · simp at hl
    · rw [List.concat_eq_append] at *
      have hr : r.length = m := by simpa using hl
      obtain ⟨n1, n2, n3⟩ := List.nodup_append.mp nd
      have ih := subs_nodup m r hr n1
      have e : subsL (r ++ [p]) = grow (subsL r) p := by
        unfold subsL
        rw [List.foldl_append]
        rfl
      rw [e]
      unfold grow
      refine List.nodup_append.mpr ⟨ih, ?_, fun a ha b hb e2 => ?_⟩
      · exact List.Pairwise.map _ (fun a b hab e3 => hab (List.append_cancel_right e3)) ih
      · obtain ⟨c, _, rfl⟩ := List.mem_map.mp hb
        have hp : p ∈ a := by
          rw [e2]
          exact List.mem_append_right _ (List.mem_singleton.mpr rfl)
        exact n3 p ((mem_subs.mp ha).subset hp) p (List.mem_singleton.mpr rfl) rfl
theorem hasAll_true {fc pts : List Int} : hasAll fc pts = true ↔ ∀ p ∈ pts, p ∈ fc := by
  unfold hasAll
  rw [List.all_eq_true]
  constructor
  · intro h p hp
    simpa using h p hp
  · intro h p hp
    simpa using h p hp
theorem inSome_true {pts : List Int} {laid : List (List Int)} : inSome pts laid = true ↔ ∃ f ∈ laid, ∀ p ∈ pts, p ∈ f := by
  unfold inSome
  rw [List.any_eq_true]
  constructor
  · rintro ⟨f, hf, h⟩
    exact ⟨f, hf, hasAll_true.mp h⟩
  · rintro ⟨f, hf, h⟩
    exact ⟨f, hf, hasAll_true.mpr h⟩
theorem lex_le {x y : List Int} (h : lex x y = true) : le x y = true := by
  have z := NtL.lex_asym x y h
  simp [le, z]
theorem strict_eq {l m : List (List Int)} (hl : l.Pairwise fun x y => lex x y = true) (hm : m.Pairwise fun x y => le x y = true) (nm : m.Nodup) (h : ∀ z, z ∈ l ↔ z ∈ m) : l = m :=
  sorted_eq ((List.perm_ext_iff_of_nodup (lex_nd hl) nm).mpr h) (hl.imp lex_le) hm
/-- the parts of m points of a stack -/
def partsN (n : Nat) (fss : List (List Int)) (m : Nat) : List (List Int) := (allF n m).filter fun z => inSome z fss
theorem mem_partsN {n m : Nat} {fss : List (List Int)} {z : List Int} : z ∈ partsN n fss m ↔ RisB n z ∧ z.length = m ∧ ∃ f ∈ fss, ∀ x ∈ z, x ∈ f := by
  unfold partsN
  rw [List.mem_filter, mem_allF, inSome_true]
  constructor
  · rintro ⟨⟨h1, h2⟩, h3⟩
    exact ⟨h1, h2, h3⟩
  · rintro ⟨h1, h2, h3⟩
    exact ⟨⟨h1, h2⟩, h3⟩
theorem partsN_pw (n m : Nat) (fss : List (List Int)) : (partsN n fss m).Pairwise fun x y => le x y = true := (sortL_pw _).filter _
theorem partsN_nd (n m : Nat) (fss : List (List Int)) : (partsN n fss m).Nodup := (nodup_allF n m).filter _
/-- the faces of a stack as told -/
structure FacesOk (n k : Nat) (fss : List (List Int)) : Prop where
  len : ∀ f ∈ fss, f.length = k
  ris : ∀ f ∈ fss, RisB n f
theorem StkOk.faces {n k : Int} {fss : List (List Int)} (S : StkOk n k fss) : FacesOk n.toNat k.toNat fss := by
  have h1 := S.n1
  have h2 := S.k0
  exact ⟨fun f hf => by have := S.len f hf; omega, fun f hf => ⟨S.ris f hf, fun i hi => by have := S.bel f hf i hi; omega⟩⟩
theorem mem_partsN' {n k m : Nat} {fss : List (List Int)} (F : FacesOk n k fss) {z : List Int} : z ∈ partsN n fss m ↔ z.length = m ∧ ∃ f ∈ fss, z.Sublist f := by
  rw [mem_partsN]
  constructor
  · rintro ⟨h1, h2, f, hf, h3⟩
    exact ⟨h2, f, hf, sub_of (F.ris f hf).1 h1.1 h3⟩
  · rintro ⟨h2, f, hf, h3⟩
    exact ⟨⟨(F.ris f hf).1.sublist h3, fun i hi => (F.ris f hf).2 i (h3.subset hi)⟩, h2, f, hf, fun x hx => h3.subset hx⟩
theorem few_all : ((List.range 9).all fun n => (List.range 4).all fun m => decide (((allK n m).filter fun g => decide (g.length = m)).length ≤ 56)) = true := by decide +kernel
theorem allF_few {n m : Nat} (hn : n ≤ 8) (hm : m ≤ 3) : (allF n m).length ≤ 56 := by
  unfold allF
  rw [(sortL_perm _).length_eq]
  have z := List.all_eq_true.mp (List.all_eq_true.mp few_all n (List.mem_range.mpr (by omega))) m (List.mem_range.mpr (by omega))
  exact of_decide_eq_true z
/-- few parts of each number of points -/
theorem partsN_few {n k m : Nat} {fss : List (List Int)} (F : FacesOk n k fss) (hn : n ≤ 8) (hk : k ≤ 4) (hm : m ≤ k) (h60 : fss.length ≤ 60) : (partsN n fss m).length ≤ 60 := by
  by_cases h3 : m ≤ 3
  · have := allF_few hn h3
    have h2 := List.length_filter_le (fun z => inSome z fss) (allF n m)
    unfold partsN
    omega
  · have e : m = k := by omega
    refine Nat.le_trans (nd_le (partsN_nd n m fss) fun z hz => ?_) h60
    obtain ⟨h1, f, hf, h2⟩ := (mem_partsN' F).mp hz
    rw [List.Sublist.eq_of_length h2 (by rw [F.len f hf]; omega)]
    exact hf
/-! ### a walk that adds to a set -/
section
variable {K : PySem.W.Frag} {g : TG} {tt : TT} {ta : TD} {vs : List Nat} {σ : L2.St} {Qd : Hp → Prop} {H1 : Hp}
theorem wk_tup {a : Addr} {xs : List V} (Pv : Nat → Hp → Prop) (h0 : Pv 0 H1) (hl : ∀ i H, Pv i H → SqT K H a xs)
    (hs : ∀ i x H, xs[i]? = some x → Pv i H → g x (wipe σ vs) H fun σ2 H2 => wipe σ2 vs = wipe σ vs ∧ tt σ2 H2 fun b H3 => if b = true then ta σ2 H3 (Pv (i + 1)) else Pv (i + 1) H3) (hd : ∀ H, Pv xs.length H → Qd H) :
    ∃ W : Nat → Nat → Hp → Prop, (∃ m, W 0 m H1) ∧ tWk (Itt K a) σ vs g tt ta Qd W := by
  refine ⟨fun i m H => m = xs.length - i ∧ i ≤ xs.length ∧ Pv i H, ⟨xs.length, by simp, Nat.zero_le _, h0⟩, ?_⟩
  rintro i m H ⟨rfl, hi, p⟩
  by_cases hlt : i < xs.length
  · refine .inr ⟨⟨xs, xs[i], hl i H p, List.getElem?_eq_getElem hlt⟩, Pv (i + 1), fun H' p' => ⟨xs.length - (i + 1), by omega, rfl, hlt, p'⟩, fun x H' y => ?_⟩
    obtain ⟨rfl, y⟩ := y
    exact hs i x _ (y xs (hl i _ p)) p
  · have ei : i = xs.length := by omega
    subst ei
    exact .inl ⟨⟨xs, hl _ H p, Nat.le_refl _⟩, hd H p⟩
theorem wk_lst {a : Addr} {xs : List V} (Pv : Nat → Hp → Prop) (h0 : Pv 0 H1) (hl : ∀ i H, Pv i H → SqL K H a xs)
    (hs : ∀ i x H, xs[i]? = some x → Pv i H → g x (wipe σ vs) H fun σ2 H2 => wipe σ2 vs = wipe σ vs ∧ tt σ2 H2 fun b H3 => if b = true then ta σ2 H3 (Pv (i + 1)) else Pv (i + 1) H3) (hd : ∀ H, Pv xs.length H → Qd H) :
    ∃ W : Nat → Nat → Hp → Prop, (∃ m, W 0 m H1) ∧ tWk (Itl K a) σ vs g tt ta Qd W := by
  refine ⟨fun i m H => m = xs.length - i ∧ i ≤ xs.length ∧ Pv i H, ⟨xs.length, by simp, Nat.zero_le _, h0⟩, ?_⟩
  rintro i m H ⟨rfl, hi, p⟩
  by_cases hlt : i < xs.length
  · refine .inr ⟨⟨xs, xs[i], hl i H p, List.getElem?_eq_getElem hlt⟩, Pv (i + 1), fun H' p' => ⟨xs.length - (i + 1), by omega, rfl, hlt, p'⟩, fun x H' y => ?_⟩
    obtain ⟨rfl, y⟩ := y
    exact hs i x _ (y xs (hl i _ p)) p
  · have ei : i = xs.length := by omega
    subst ei
    exact .inl ⟨⟨xs, hl _ H p, Nat.le_refl _⟩, hd H p⟩
end
/-- the set at D has got the tuples of seen -/
structure SP (K : PySem.W.Frag) (P : Program) (w : World) (Ps : Tbs) (H0 : Hp) (D : Addr) (seen : List (List Int)) (H : Hp) : Prop where
  ext : Ext Ps H0 H
  at_ : ∃ L, H D = some (SetTO P w D L) ∧ (∀ p ∈ L, SqT K H p.1 (p.2.map V.int)) ∧ (L.map (·.2)).Nodup ∧ ∀ z, z ∈ L.map (·.2) ↔ z ∈ seen
section
variable {K : PySem.W.Frag} {P : Program} {w : World} {Ps : Tbs} {H0 H H' : Hp} {D : Addr} {seen : List (List Int)}
theorem SP.start (ht : Tb Ps H0) (hD : H0 D = none) : SP K P w Ps H0 D [] (upd H0 D (SetTO P w D [])) := ⟨Ext.new ht hD, [], upd_same, fun p hp => (nomatch hp), List.nodup_nil, fun z => Iff.rfl⟩
theorem SP.skip (h : SP K P w Ps H0 D seen H) (e : Ext Ps H H') : SP K P w Ps H0 D seen H' := by
  obtain ⟨L, h1, h2, h3, h4⟩ := h.at_
  exact ⟨h.ext.trans e, L, e.old _ _ h1 (fun q z => by cases z), fun p hp => e.sqT (h2 p hp), h3, h4⟩
theorem sqT_set {L L' : List (Addr × List Int)} {t : Addr} {xs : List V} (hD : H D = some (SetTO P w D L)) (h : SqT K H t xs) : SqT K (upd H D (SetTO P w D L')) t xs := by
  rcases h with (h | ⟨o, h⟩) | h
  · exact .inl (.inl (by rw [upd_ne (ne_of h hD (by intro z; cases z))]; exact h))
  · exact .inl (.inr ⟨o, by rw [upd_ne (ne_of h hD (by intro z; cases z))]; exact h⟩)
  · exact .inr h
/-- one more -/
theorem SP.put {U : List (List Int)} {x : Addr} {k : List Int} (hD : H0 D = none) (h : SP K P w Ps H0 D seen H) (hx : SqT K H x (k.map V.int)) (hU : U.length ≤ 60) (hs : ∀ z ∈ seen, z ∈ U) :
    ∃ L, H D = some (SetTO P w D L) ∧ (∀ p ∈ L, SqT K H p.1 (p.2.map V.int)) ∧ L.length + 1 < 64 ∧ ∀ L', Grown L x k L' → SP K P w Ps H0 D (seen ++ [k]) (upd H D (SetTO P w D L')) := by
  obtain ⟨L, h1, h2, h3, h4⟩ := h.at_
  refine ⟨L, h1, h2, ?_, fun L' gr => ?_⟩
  · have z := nd_le h3 (D := U) fun z hz => hs z ((h4 z).mp hz)
    rw [List.length_map] at z
    omega
  · have ex : Ext Ps H0 (upd H D (SetTO P w D L')) := h.ext.write hD h1 (fun q z => by cases z) (fun q => ext_ne_code fun h' oc vs R g e => by
      obtain ⟨⟨es, ep, t, ⟨o, e1, e2, e3⟩, _⟩⟩ := R
      rw [e1] at g
      cases g
      rw [e] at e3
      cases e3)
    by_cases hk : k ∈ L.map (·.2)
    · have e := gr.1 hk
      subst e
      refine ⟨ex, L', upd_same, fun p hp => sqT_set h1 (h2 p hp), h3, fun z => ?_⟩
      rw [List.mem_append, ← h4 z]
      constructor
      · exact .inl
      · rintro (q | q)
        · exact q
        · rw [List.mem_singleton.mp q]
          exact hk
    · have pm := gr.2 hk
      have pm2 := pm.map (·.2)
      refine ⟨ex, L', upd_same, fun p hp => ?_, ?_, fun z => ?_⟩
      · rcases List.mem_cons.mp (pm.mem_iff.mp hp) with e | q
        · rw [e]
          exact sqT_set h1 hx
        · exact sqT_set h1 (h2 p q)
      · rw [pm2.nodup_iff, List.map_cons, List.nodup_cons]
        exact ⟨hk, h3⟩
      · rw [pm2.mem_iff, List.map_cons, List.mem_cons, List.mem_append, List.mem_singleton, h4 z]
        exact Or.comm
end
end Lf

set_option maxHeartbeats 2000000
namespace Lf
open PySem PySem.Spec PyProof.Rows L2 GxR GxA SrT
abbrev nPartsOf : List Str := ["stack", "many", "face", "part"]
section
variable {P : Program} {w : World} {K : PySem.W.Frag} {mg : Str → Option Value} {base : Heap} {Ps : Tbs} {H H' H0 : Hp} {k : Nat} {f c : Addr} {fd : FuncData}
/-- what the set has got from the first faces -/
def gotP (fss : List (List Int)) (m : Nat) : List (List Int) := fss.flatMap fun f => (sortL (subsL f)).filter fun p => decide (p.length = m)
theorem mem_gotP {fss : List (List Int)} {m : Nat} {z : List Int} : z ∈ gotP fss m ↔ z.length = m ∧ ∃ f ∈ fss, z.Sublist f := by
  unfold gotP
  rw [List.mem_flatMap]
  constructor
  · rintro ⟨f, hf, h⟩
    obtain ⟨h1, h2⟩ := List.mem_filter.mp h
    exact ⟨of_decide_eq_true h2, f, hf, mem_subs.mp ((sortL_perm _).mem_iff.mp h1)⟩
  · rintro ⟨h1, f, hf, h2⟩
    exact ⟨f, hf, List.mem_filter.mpr ⟨(sortL_perm _).mem_iff.mpr (mem_subs.mpr h2), decide_eq_true h1⟩⟩
theorem gotP_take {fss : List (List Int)} {m i : Nat} {f : List Int} (h : fss[i]? = some f) : gotP (fss.take (i + 1)) m = gotP (fss.take i) m ++ (sortL (subsL f)).filter fun p => decide (p.length = m) := by
  unfold gotP
  rw [List.take_add_one, h, List.flatMap_append]
  simp
def spPartsOf (K : PySem.W.Frag) (Ps : Tbs) : Sp := fun vs H Q _ => ∃ (x : V) (n kk m : Int) (fss : List (List Int)), vs = [x, .int m] ∧ Stk K H x n kk fss ∧ StkOk n kk fss ∧ fss.length ≤ 60 ∧ 0 ≤ m ∧ m ≤ kk ∧ Tb Ps H ∧
  ∀ (l : Addr) (ys : List V) (H' : Hp), Ext Ps H H' → H l = none → H' l = some (.lst ys) → Paired (TupI K H') ys (partsN n.toNat fss m.toNat) → Q (.ref l) H'
end
end Lf

set_option maxHeartbeats 2000000
namespace Lf
open PySem PySem.Spec PyProof.Rows L2 GxR GxA SrT EnT
/-- for i, x in enumerate(a list that stands still) -/
theorem for_enL {K : PySem.W.Frag} {a : Addr} {xs : List V} {g : TG} {tb : TS} {D : Ends} {σ : L2.St} {H : Hp} (Pv : Nat → L2.St → Hp → Prop) (h0 : Pv 0 σ H) (hl : ∀ i σ H, Pv i σ H → SqL K H a xs)
    (hs : ∀ i x σ H T, xs[i]? = some x → Pv i σ H → H T = none → g (.ref T) σ (upd H T (.tup [.int (i : Nat), x])) fun σ2 H2 => tb { D with nx := Pv (i + 1), ct := Pv (i + 1), bk := D.nx } σ2 H2) (hd : ∀ σ H, Pv xs.length σ H → D.nx σ H) :
    ∃ W : Nat → Nat → L2.St → Hp → Prop, (∃ m, W 0 m σ H) ∧ ∀ i m σ H, W i m σ H →
      ((Ite K a).stop i H ∧ D.nx σ H) ∨ ((Ite K a).go i H ∧ ∃ N : L2.St → Hp → Prop, (∀ σ' H', N σ' H' → ∃ m', m' < m ∧ W (i + 1) m' σ' H') ∧ ∀ x H', (Ite K a).yld i H x H' → g x σ H' fun σ2 H2 => tb { D with nx := N, ct := N, bk := D.nx } σ2 H2) := by
  refine ⟨fun i m σ H => m = xs.length - i ∧ i ≤ xs.length ∧ Pv i σ H, ⟨xs.length, by simp, Nat.zero_le _, h0⟩, ?_⟩
  rintro i m σ H ⟨rfl, hi, p⟩
  have q := hl i σ H p
  by_cases hlt : i < xs.length
  · refine .inr ⟨⟨xs, xs[i], q, List.getElem?_eq_getElem hlt⟩, Pv (i + 1), fun σ' H' p' => ⟨xs.length - (i + 1), by omega, rfl, hlt, p'⟩, fun x H' y => ?_⟩
    obtain ⟨T, z, rfl, hT, rfl, hz⟩ := y
    exact hs i z σ H T (hz xs q) p hT
  · have e : i = xs.length := by omega
    subst e
    exact .inl ⟨⟨xs, q, Nat.le_refl _⟩, hd σ H p⟩
/-- [.. for i, x in enumerate(a list that stands still)] -/
theorem lc_enL {K : PySem.W.Frag} {a : Addr} {xs : List V} {g : TG} {tt : TT} {te : TE} {vs : List Nat} {σ : L2.St} {H1 : Hp} {D : Addr} {Qd : Hp → Prop} (Pv : Nat → Hp → Prop) (h0 : Pv 0 (upd H1 D (.lst []))) (hl : ∀ i H, Pv i H → SqL K H a xs)
    (hs : ∀ i x H T, xs[i]? = some x → Pv i H → H T = none → g (.ref T) (wipe σ vs) (upd H T (.tup [.int (i : Nat), x])) fun σ2 H2 => wipe σ2 vs = wipe σ vs ∧ tt σ2 H2 fun b H3 =>
      if b = true then te σ2 H3 fun y H4 => ∃ acc, H4 D = some (.lst acc) ∧ acc.length < sizeLine ∧ Pv (i + 1) (upd H4 D (.lst (acc ++ [y]))) else Pv (i + 1) H3) (hd : ∀ H, Pv xs.length H → Qd H) :
    ∃ W : Nat → Nat → Hp → Prop, (∃ m, W 0 m (upd H1 D (.lst []))) ∧ ∀ i m H, W i m H →
      ((Ite K a).stop i H ∧ Qd H) ∨ ((Ite K a).go i H ∧ ∃ Nx : Hp → Prop, (∀ H', Nx H' → ∃ m', m' < m ∧ W (i + 1) m' H') ∧ ∀ x H', (Ite K a).yld i H x H' → g x (wipe σ vs) H' fun σ2 H2 => wipe σ2 vs = wipe σ vs ∧ tt σ2 H2 fun b H3 =>
        if b = true then te σ2 H3 fun y H4 => ∃ acc, H4 D = some (.lst acc) ∧ acc.length < sizeLine ∧ Nx (upd H4 D (.lst (acc ++ [y]))) else Nx H3) := by
  refine ⟨fun i m H => m = xs.length - i ∧ i ≤ xs.length ∧ Pv i H, ⟨xs.length, by simp, Nat.zero_le _, h0⟩, ?_⟩
  rintro i m H ⟨rfl, hi, p⟩
  have q := hl i H p
  by_cases hlt : i < xs.length
  · refine .inr ⟨⟨xs, xs[i], q, List.getElem?_eq_getElem hlt⟩, Pv (i + 1), fun H' p' => ⟨xs.length - (i + 1), by omega, rfl, hlt, p'⟩, fun x H' y => ?_⟩
    obtain ⟨T, z, rfl, hT, rfl, hz⟩ := y
    exact hs i z H T (hz xs q) p hT
  · have e : i = xs.length := by omega
    subst e
    exact .inl ⟨⟨xs, q, Nat.le_refl _⟩, hd H p⟩
section
variable {P : Program} {w : World} {K : PySem.W.Frag} {mg : Str → Option Value} {base : Heap} {Ps : Tbs} {H H' H0 : Hp} {k : Nat} {f c : Addr} {fd : FuncData}
/-! ### counts -/
def countsN (n kk : Nat) (fss : List (List Int)) : List Int := (List.range (kk + 1)).map fun m => ((partsN n fss m).length : Int)
def spCounts (K : PySem.W.Frag) (Ps : Tbs) : Sp := fun vs H Q _ => ∃ (x : V) (n kk : Int) (fss : List (List Int)), vs = [x] ∧ Stk K H x n kk fss ∧ StkOk n kk fss ∧ fss.length ≤ 60 ∧ Tb Ps H ∧
  ∀ v H', Ext Ps H H' → TupI K H' v (countsN n.toNat kk.toNat fss) → Q v H'
/-! ### is_row -/
/-- a stack, and a tuple of numbers of its faces -/
structure AskR (K : PySem.W.Frag) (Ps : Tbs) (H : Hp) (x y : V) (n k : Int) (fss : List (List Int)) (ns : List Int) : Prop where
  stk : Stk K H x n k fss
  ok : StkOk n k fss
  row : TupI K H y ns
  bel : ∀ i ∈ ns, 0 ≤ i ∧ i < (fss.length : Int)
  len : ns.length ≤ 100
  tb : Tb Ps H
theorem AskR.ext {x y : V} {n k : Int} {fss : List (List Int)} {ns : List Int} (h : AskR K Ps H x y n k fss ns) (e : Ext Ps H H') : AskR K Ps H' x y n k fss ns := ⟨e.stk h.stk, h.ok, e.tupI h.row, h.bel, h.len, e.tb⟩
def spIsRow (K : PySem.W.Frag) (Ps : Tbs) : Sp := fun vs H Q _ => ∃ (x y : V) (n kk : Int) (fss : List (List Int)) (ns : List Int), vs = [x, y] ∧ AskR K Ps H x y n kk fss ns ∧ ∀ b H', (b = true ↔ ns.Perm (rng fss.length)) → Ext Ps H H' → Q (.bl b) H'
theorem le_perm_eq {us vs : List Int} (p : us.Perm vs) (h1 : us.Pairwise (· ≤ ·)) (h2 : vs.Pairwise (· ≤ ·)) : us = vs := List.Perm.eq_of_pairwise (fun a b _ _ h1 h2 => by omega) h1 h2 p
theorem rng_le (m : Nat) : (rng m).Pairwise (· ≤ ·) := by
  unfold rng
  rw [List.pairwise_map]
  exact List.Pairwise.imp (fun {a b} h => by omega) List.pairwise_lt_range
def spEach (K : PySem.W.Frag) (Ps : Tbs) : Sp := fun vs H Q _ => ∃ (y : V) (m : Nat) (ns : List Int), vs = [y, .int m] ∧ TupI K H y ns ∧ (∀ i ∈ ns, 0 ≤ i ∧ i < (m : Int)) ∧ m ≤ 1000 ∧ Tb Ps H ∧ ∀ b H', (b = true ↔ ns.Perm (rng m)) → Ext Ps H H' → Q (.bl b) H'
end
end Lf

set_option maxHeartbeats 2000000
namespace Lf
open PySem PySem.Spec PyProof.Rows L2 GxR GxA SrT EnT
theorem cut_take {xs : List V} {i : Nat} (h : i ≤ xs.length) : cutV xs none (some (i : Int)) = xs.take i := by
  unfold cutV
  rw [HT.sIx_nat]
  show (xs.drop 0).take (min i xs.length - 0) = xs.take i
  rw [List.drop_zero, Nat.sub_zero, Nat.min_eq_left h]
theorem paired_take {α β : Type} {F : α → β → Prop} : ∀ {xs : List α} {ys : List β}, Paired F xs ys → ∀ i, Paired F (xs.take i) (ys.take i)
  | _, _, .nil, i => by simp only [List.take_nil]; exact .nil
  | _, _, .cons r t, 0 => .nil
  | _, _, .cons r t, i + 1 => .cons r (paired_take t i)
/-- the first place at which a face may not be laid -/
def wrongAt : List (List Int) → List (List Int) → Nat → Option Nat
  | _, [], _ => none
  | laid, fc :: r, i => if liesOn laid fc = true then wrongAt (laid ++ [fc]) r (i + 1) else some i
def placeV : Option Nat → V
  | none => .non
  | some i => .int (i : Int)
theorem wrong_step {fs : List (List Int)} {i : Nat} {fc : List Int} (h : fs[i]? = some fc) : wrongAt (fs.take i) (fs.drop i) i = if liesOn (fs.take i) fc = true then wrongAt (fs.take (i + 1)) (fs.drop (i + 1)) (i + 1) else some i := by
  obtain ⟨hi, e⟩ := List.getElem?_eq_some_iff.mp h
  rw [List.drop_eq_getElem_cons hi, e, List.take_add_one, h]
  rfl
section
variable {P : Program} {w : World} {K : PySem.W.Frag} {mg : Str → Option Value} {base : Heap} {Ps : Tbs} {H H' H0 : Hp} {k : Nat} {f c : Addr} {fd : FuncData}
theorem facesAt_4 {n kk : Int} {fss : List (List Int)} {ns : List Int} (S : StkOk n kk fss) (hb : ∀ i ∈ ns, 0 ≤ i ∧ i < (fss.length : Int)) : ∀ g ∈ facesAt fss ns, g ∈ fss := by
  intro g hg
  unfold facesAt at hg
  obtain ⟨i, hi, e⟩ := List.mem_map.mp hg
  obtain ⟨b0, b1⟩ := hb i hi
  have hlt : i.toNat < fss.length := by omega
  rw [List.getD_eq_getElem?_getD, List.getElem?_eq_getElem hlt] at e
  rw [← e]
  exact List.getElem_mem hlt
/-! ### wrong_place -/
def spWrong (K : PySem.W.Frag) (Ps : Tbs) : Sp := fun vs H Q _ => ∃ (x y : V) (n kk : Int) (fss : List (List Int)) (ns : List Int), vs = [x, y] ∧ AskR K Ps H x y n kk fss ns ∧ ∀ H', Ext Ps H H' → Q (placeV (wrongAt [] (facesAt fss ns) 0)) H'
/-! ### is_order -/
def isOrd (fss : List (List Int)) (ns : List Int) : Prop := ns.Perm (rng fss.length) ∧ wrongAt [] (facesAt fss ns) 0 = none
def spIsOrder (K : PySem.W.Frag) (Ps : Tbs) : Sp := fun vs H Q _ => ∃ (x y : V) (n kk : Int) (fss : List (List Int)) (ns : List Int), vs = [x, y] ∧ AskR K Ps H x y n kk fss ns ∧ ∀ b H', (b = true ↔ isOrd fss ns) → Ext Ps H H' → Q (.bl b) H'
/-! ### need_order, brings -/
def spNeedOrder (K : PySem.W.Frag) (Ps : Tbs) : Sp := fun vs H Q _ => ∃ (x y : V) (n kk : Int) (fss : List (List Int)) (ns : List Int), vs = [x, y] ∧ AskR K Ps H x y n kk fss ns ∧ isOrd fss ns ∧ ∀ H', Ext Ps H H' → Q .non H'
def bringsL (fs : List (List Int)) : Nat → List (List Int)
  | 0 => []
  | i + 1 => bringsL fs i ++ [brOn (fs.take i) (fs.getD i [])]
def spBrings (K : PySem.W.Frag) (Ps : Tbs) : Sp := fun vs H Q _ => ∃ (x y : V) (n kk : Int) (fss : List (List Int)) (ns : List Int), vs = [x, y] ∧ AskR K Ps H x y n kk fss ns ∧ isOrd fss ns ∧ ∀ v H', Ext Ps H H' → LstT K H' v (bringsL (facesAt fss ns) ns.length) → Q v H'
end
end Lf

set_option maxHeartbeats 1000000
namespace Lf
/-! what may be laid, told in two ways -/
def comL (fc g : List Int) : List Int := fc.filter fun p => decide (p ∈ g)
def mayL (kk : Int) (fss : List (List Int)) (fc : List Int) : Bool :=
  ((fss.map (comL fc)).all fun own => ((fss.map (comL fc)).filter fun o => decide ((o.length : Int) = kk - 1)).any fun one => hasAll one own) && !decide (fc ∈ fss)
theorem hasAll_all {face pts : List Int} : hasAll face pts = true ↔ ∀ p ∈ pts, p ∈ face := by
  unfold hasAll
  rw [List.all_eq_true]
  simp only [decide_eq_true_eq]
theorem inSome_ex {pts : List Int} {fss : List (List Int)} : inSome pts fss = true ↔ ∃ g ∈ fss, ∀ p ∈ pts, p ∈ g := by
  unfold inSome
  rw [List.any_eq_true]
  simp only [hasAll_all]
theorem mem_less1 {fc : List Int} {p q : Int} : q ∈ lessL fc [p] ↔ q ∈ fc ∧ q ≠ p := by
  unfold lessL
  rw [List.mem_filter]
  simp
theorem mem_brOn {laid : List (List Int)} {fc : List Int} {p : Int} : p ∈ brOn laid fc ↔ p ∈ fc ∧ ∃ g ∈ laid, ∀ q ∈ fc, q ≠ p → q ∈ g := by
  unfold brOn
  rw [List.mem_filter, inSome_ex]
  simp only [mem_less1, and_imp]
theorem lies_iff {laid : List (List Int)} {fc : List Int} : liesOn laid fc = true ↔ ∀ g ∈ laid, ∃ p ∈ brOn laid fc, p ∉ g := by
  unfold liesOn
  rw [Bool.not_eq_true', ← Bool.not_eq_true, inSome_ex]
  constructor
  · intro h g hg
    apply Classical.byContradiction
    intro z
    exact h ⟨g, hg, fun p hp => Classical.byContradiction fun n => z ⟨p, hp, n⟩⟩
  · rintro h ⟨g, hg, z⟩
    obtain ⟨p, hp, n⟩ := h g hg
    exact n (z p hp)
theorem mem_comL {fc g : List Int} {p : Int} : p ∈ comL fc g ↔ p ∈ fc ∧ p ∈ g := by
  unfold comL
  rw [List.mem_filter, decide_eq_true_eq]
theorem may_iff {kk : Int} {fss : List (List Int)} {fc : List Int} : mayL kk fss fc = true ↔ (∀ g ∈ fss, ∃ h ∈ fss, ((comL fc h).length : Int) = kk - 1 ∧ ∀ p ∈ fc, p ∈ g → p ∈ h) ∧ fc ∉ fss := by
  unfold mayL
  rw [Bool.and_eq_true, List.all_eq_true]
  refine and_congr ?_ (by simp)
  constructor
  · intro z g hg
    have z1 := z _ (List.mem_map.mpr ⟨g, hg, rfl⟩)
    rw [List.any_eq_true] at z1
    obtain ⟨o, ho, hh⟩ := z1
    obtain ⟨ho1, ho2⟩ := List.mem_filter.mp ho
    obtain ⟨h, hh1, rfl⟩ := List.mem_map.mp ho1
    exact ⟨h, hh1, of_decide_eq_true ho2, fun p hp hg => (mem_comL.mp (hasAll_all.mp hh p (mem_comL.mpr ⟨hp, hg⟩))).2⟩
  · intro z o ho
    obtain ⟨g, hg, rfl⟩ := List.mem_map.mp ho
    obtain ⟨h, h1, h2, h3⟩ := z g hg
    rw [List.any_eq_true]
    exact ⟨comL fc h, List.mem_filter.mpr ⟨List.mem_map.mpr ⟨h, h1, rfl⟩, decide_eq_true h2⟩, hasAll_all.mpr fun p hp => mem_comL.mpr ⟨(mem_comL.mp hp).1, h3 p (mem_comL.mp hp).1 (mem_comL.mp hp).2⟩⟩
theorem len_filter_add (l : List Int) (q : Int → Bool) : (l.filter q).length + (l.filter fun x => !q x).length = l.length := by
  induction l with
  | nil => rfl
  | cons x l ih =>
    by_cases h : q x = true
    · simp only [List.filter_cons, h, if_true, Bool.not_true, Bool.false_eq_true, if_false, List.length_cons]
      omega
    · have h' : q x = false := by simpa using h
      simp only [List.filter_cons, h', if_false, Bool.not_false, Bool.false_eq_true, if_true, List.length_cons]
      omega
theorem ris_eq {f g : List Int} (hf : f.Pairwise (· < ·)) (hg : g.Pairwise (· < ·)) (hl : f.length = g.length) (h : ∀ p ∈ f, p ∈ g) : f = g := by
  have nf : f.Nodup := hf.imp (fun {a b} h => by omega)
  have ng : g.Nodup := hg.imp (fun {a b} h => by omega)
  have back : ∀ p ∈ g, p ∈ f := fun p hp => Classical.byContradiction fun n => by
    have z := List.Nodup.length_le_of_subset (l₁ := p :: f) (l₂ := g) (List.nodup_cons.mpr ⟨n, nf⟩) fun q hq => (List.mem_cons.mp hq).elim (fun e => e ▸ hp) (h q)
    rw [List.length_cons] at z
    omega
  have pm : f.Perm g := (List.perm_ext_iff_of_nodup nf ng).mpr fun p => ⟨h p, back p⟩
  exact List.Perm.eq_of_pairwise (fun a b _ _ h1 h2 => by omega) hf hg pm
/-- the law's way and the program's way -/
theorem may_lies {kk : Int} {fss : List (List Int)} {fc : List Int} (hl : ∀ g ∈ fss, (g.length : Int) = kk) (hs : ∀ g ∈ fss, g.Pairwise (· < ·)) (fl : (fc.length : Int) = kk) (fs : fc.Pairwise (· < ·)) : mayL kk fss fc = liesOn fss fc := by
  have nf : fc.Nodup := fs.imp (fun {a b} h => by omega)
  rw [Bool.eq_iff_iff, may_iff, lies_iff]
  have one : ∀ h : List Int, ((comL fc h).length : Int) = kk - 1 → ∃ p ∈ fc, p ∉ h ∧ ∀ q ∈ fc, q ≠ p → q ∈ h := by
    intro h e
    have e2 := len_filter_add fc fun p => decide (p ∈ h)
    have e3 : (fc.filter fun p => !decide (p ∈ h)).length = 1 := by
      have : (comL fc h).length = (fc.filter fun p => decide (p ∈ h)).length := rfl
      omega
    obtain ⟨p, hp⟩ := List.length_eq_one_iff.mp e3
    have mp : ∀ q, q ∈ fc ∧ q ∉ h ↔ q = p := fun q => by
      have : q ∈ fc.filter (fun p => !decide (p ∈ h)) ↔ q ∈ [p] := by rw [hp]
      rw [List.mem_filter, List.mem_singleton] at this
      simpa using this
    have m0 := (mp p).mpr rfl
    exact ⟨p, m0.1, m0.2, fun q hq hn => Classical.byContradiction fun z => hn ((mp q).mp ⟨hq, z⟩)⟩
  constructor
  · rintro ⟨z, n⟩ g hg
    obtain ⟨h, h1, h2, h3⟩ := z g hg
    obtain ⟨p, p1, p2, p3⟩ := one h h2
    exact ⟨p, mem_brOn.mpr ⟨p1, h, h1, p3⟩, fun pg => p2 (h3 p p1 pg)⟩
  · intro z
    have n : fc ∉ fss := fun hm => by
      obtain ⟨p, hp, hn⟩ := z fc hm
      exact hn (mem_brOn.mp hp).1
    refine ⟨fun g hg => ?_, n⟩
    obtain ⟨p, hp, hn⟩ := z g hg
    obtain ⟨p1, h, h1, h2⟩ := mem_brOn.mp hp
    have ph : p ∉ h := fun ph => by
      have e : fc = h := ris_eq fs (hs h h1) (by have := hl h h1; omega) fun q hq => by
        by_cases e : q = p
        · rw [e]
          exact ph
        · exact h2 q hq e
      exact n (e ▸ h1)
    refine ⟨h, h1, ?_, fun q hq hg => h2 q hq fun e => hn (e ▸ hg)⟩
    have e2 := len_filter_add fc fun p => decide (p ∈ h)
    have e3 : (fc.filter fun q => !decide (q ∈ h)) = fc.filter fun q => decide (q = p) := List.filter_congr fun q hq => by
      by_cases e : q = p
      · rw [e, decide_eq_false ph, decide_eq_true rfl]
        rfl
      · rw [decide_eq_true (h2 q hq e), decide_eq_false e]
        rfl
    have e4 : (fc.filter fun q => decide (q = p)).length = 1 := by
      rw [← List.countP_eq_length_filter]
      have this := nf.count (a := p)
      rw [if_pos p1, List.count] at this
      rw [← this]
      refine List.countP_congr fun q _ => ?_
      simp
    have : (comL fc h).length = (fc.filter fun p => decide (p ∈ h)).length := rfl
    rw [e3, e4] at e2
    omega
end Lf

set_option maxHeartbeats 2000000
namespace Lf
open PySem PySem.Spec PyProof.Rows L2 GxR GxA SrT
theorem filter_step {α : Type} {l : List α} {q : α → Bool} {i : Nat} {y : α} (h : l[i]? = some y) : (l.take (i + 1)).filter q = (l.take i).filter q ++ (if q y = true then [y] else []) := by
  rw [List.take_add_one, h, List.filter_append]
  show _ ++ List.filter q [y] = _
  by_cases e : q y = true
  · rw [if_pos e, List.filter_cons_of_pos e, List.filter_nil]
  · rw [if_neg e, List.filter_cons_of_neg e, List.filter_nil]
theorem comL_len (fc g : List Int) : (comL fc g).length ≤ fc.length := List.length_filter_le _ _
theorem eqv_tD (f g : List Int) : PyData.eqv (tD f) (tD g) = decide (f = g) := by
  show PyData.eqv (.tuple (iD f)) (.tuple (iD g)) = _
  rw [PyData.eqv, eqv_ints]
section
variable {P : Program} {w : World} {K : PySem.W.Frag} {mg : Str → Option Value} {base : Heap} {Ps : Tbs} {H H' H0 : Hp} {k : Nat} {f c : Addr} {fd : FuncData}
/-! ### _law_common, told -/
def spCommonE (K : PySem.W.Frag) (Ps : Tbs) : Sp := fun vs H Q _ => ∃ (x y : V) (pts fc : List Int), vs = [x, y] ∧ TupI K H x pts ∧ TupI K H y fc ∧ pts.length ≤ 100 ∧ Tb Ps H ∧ ∀ (l : Addr) (H' : Hp), Ext Ps H H' → H l = none → H' l = some (.lst ((comL pts fc).map V.int)) → Q (.ref l) H'
theorem ok_commonE (D : Def K mg "_law_common" sCommon ["_law_one", "_law_other"] f fd c) : FnOk P w K mg base CX0 (k + 1) f fd ["_law_one", "_law_other"] (spCommonE K Ps) := by
  refine D.ok (k := k) scCommon (fun vs H Q E h => ?_) (fun A outer s H vs Q E hr h => ?_)
  · obtain ⟨x, y, pts, fc, rfl, _⟩ := h
    rfl
  · obtain ⟨_, _, pts, fc, rfl, ⟨a, rfl, hA⟩, ⟨b, rfl, hB⟩, hl, ht, q⟩ := h
    refine ⟨_, pss_one (ps_ret (pe_lc (own := [("_law_point", 2)]) (g := gName 2) (by rfl) scCommon.nd (pi_tup (pv 0)) (blkOk_by (N := ["_law_one", "_law_other", "_law_point"]) (sc := defScope sCommon) (by decide +kernel))
      (fun _ _ _ _ _ => pg_name (i := 2) scCommon.nd rfl (Or.inl rfl)) (fun _ _ _ _ _ => pts_one (pt_cmpR (show OpR _ _ (rIn K false) from op_in_seq) (pv 2) (pv 1) (by with_unfolding_all rfl))) (fun _ _ _ _ _ => pv 2))), ?_⟩
    refine ⟨.ref a, rfl, a, rfl, ⟨_, hA⟩, fun D0 hD => lc_tup (K := K) (a := a) (xs := pts.map V.int) (fun i H3 => CP Ps FI H D0 (comL (pts.take i) fc) i H3) (CP.start ht hD) (fun i H3 _ p => p.ext.sqT hA) (fun i x H3 hx p => ?_) (fun H3 p => ?_)⟩
    · obtain ⟨y, hy, rfl⟩ := map_int hx
      have hi : i < pts.length := (List.getElem?_eq_some_iff.mp hy).1
      have e : comL (pts.take (i + 1)) fc = comL (pts.take i) fc ++ (if decide (y ∈ fc) = true then [y] else []) := filter_step (q := fun p => decide (p ∈ fc)) hy
      refine ⟨rfl, .int y, rfl, .ref b, rfl, b, _, rfl, .inr (p.ext.sqT hB), rfl, flat_ints fc, _, rfl, ite2 (fun hc => ?_) (fun hc => ?_)⟩
      · have hc' : decide (y ∈ fc) = true := (inV_ints y fc).symm.trans hc
        obtain ⟨acc, r1, r2, r3⟩ := CP.put (stbI (K := K)) hD (by omega) p (show FI H3 (.int y) y from rfl)
        rw [if_pos hc'] at e
        exact ⟨.int y, rfl, acc, r1, r2, by rw [e]; exact r3⟩
      · have hc' : ¬ decide (y ∈ fc) = true := fun z => hc ((inV_ints y fc).trans z)
        rw [if_neg hc', List.append_nil] at e
        rw [e]
        exact p.mono (Nat.le_succ i)
    · rw [List.length_map, List.take_length] at p
      obtain ⟨ys, e1, e2, e3⟩ := p.at_
      rw [paired_ints e2] at e1
      exact q D0 H3 p.ext hD e1
/-! ### _law_may, told -/
def spMayE (K : PySem.W.Frag) (Ps : Tbs) : Sp := fun vs H Q _ => ∃ (kk : Int) (y z : V) (fss : List (List Int)) (fc : List Int), vs = [.int kk, y, z] ∧ LstT K H y fss ∧ TupI K H z fc ∧ fss.length ≤ 100 ∧ fc.length ≤ 100 ∧ Tb Ps H ∧ ∀ (H' : Hp), Ext Ps H H' → Q (.bl (mayL kk fss fc)) H'
theorem ok_mayE {fC cC fW cW : Addr} {fdC fdW : FuncData} (D : Def K mg "_law_may" sMay ["_law_k", "_law_faces", "_law_face"] f fd c) (DC : Def K mg "_law_common" sCommon ["_law_one", "_law_other"] fC fdC cC) (GC : FnOk P w K mg base CX0 k fC fdC ["_law_one", "_law_other"] (spCommonE K Ps))
    (DW : Def K mg "_law_within" sWithinL ["_law_part", "_law_face"] fW fdW cW) (GW : FnOk P w K mg base CX0 k fW fdW ["_law_part", "_law_face"] (spWithinL K Ps)) (ml : mg "len" = none) : FnOk P w K mg base CX0 (k + 1) f fd ["_law_k", "_law_faces", "_law_face"] (spMayE K Ps) := by
  refine D.ok (k := k) scMay (fun vs H Q E h => ?_) (fun A outer s H vs Q E hr h => ?_)
  · obtain ⟨kk, y, z, fss, fc, rfl, _⟩ := h
    rfl
  · obtain ⟨kk, _, z, fss, fc, rfl, ⟨l, xs, rfl, hL, hp⟩, hZ, hfl, hcl, ht, q⟩ := h
    have hxl := Paired.length hp
    refine ⟨_, pss_cons (ps_setLc (i := 3) (own := [("_law_one", 6)]) (g := gName 6) (by rfl) scMay.nd rfl rfl (sw_true rfl rfl rfl (by decide +kernel)) (pi_list (pv 1)) (blkOk_by (N := ["_law_k", "_law_faces", "_law_face", "_law_some", "_law_beside", "_law_own", "_law_one"]) (sc := defScope sMay) (by decide +kernel))
        (fun _ _ _ _ _ => pg_name (i := 6) scMay.nd rfl (Or.inl rfl)) (fun _ _ _ _ _ => pts_nil) (fun _ _ _ _ _ => pcl DC GC hr (pa_cons (pv 2) (pa_cons (pv 6) pa_nil))))
      (pss_cons (ps_setLc (i := 4) (own := [("_law_one", 6)]) (g := gName 6) (by rfl) scMay.nd rfl rfl (sw_true rfl rfl rfl (by decide +kernel)) (pi_list (pv 3)) (blkOk_by (N := ["_law_k", "_law_faces", "_law_face", "_law_some", "_law_beside", "_law_own", "_law_one"]) (sc := defScope sMay) (by decide +kernel))
        (fun _ _ _ _ _ => pg_name (i := 6) scMay.nd rfl (Or.inl rfl)) (fun _ _ _ _ _ => pts_one (pt_cmpR op_eq (pe_callB (call_lenS (K := K) rfl) (by rfl) ml PySem.boot_len (pa_cons (pv 6) pa_nil)) (pe_op op_sub (pv 0) pe_int) (nomark _))) (fun _ _ _ _ _ => pv 6))
      (pss_cons (ps_for PassesOwn.never rfl (pi_list (pv 3)) (pg_name (i := 5) scMay.nd rfl (.inr rfl))
        (pss_one (ps_if (pt_cmpR (op_eqD hr.units) (pe_lc (own := [("_law_one", 6)]) (g := gName 6) (by rfl) scMay.nd (pi_list (pv 4)) (blkOk_by (N := ["_law_k", "_law_faces", "_law_face", "_law_some", "_law_beside", "_law_own", "_law_one"]) (sc := defScope sMay) (by decide +kernel))
          (fun _ _ _ _ _ => pg_name (i := 6) scMay.nd rfl (Or.inl rfl)) (fun _ _ _ _ _ => pts_one (pt_val (pcl DW GW hr (pa_cons (pv 5) (pa_cons (pv 6) pa_nil))))) (fun _ _ _ _ _ => pv 6)) (pe_lst pa_nil) (nomark _)) (pss_one (ps_ret pe_bl)) pss_nil)))
      (pss_one (ps_ret (pe_cmpR (op_notInD (u65 hr)) (pv 2) (pv 1) (by with_unfolding_all rfl)))))), ?_⟩
    -- some
    refine ⟨.ref l, rfl, l, rfl, ⟨_, hL⟩, fun D0 hD => lc_list (K := K) (a := l) (xs := xs) (fun i H3 => CP Ps (LIn D0) H D0 ((fss.take i).map (comL fc)) i H3) (CP.start ht hD) (fun i H3 _ p => p.ext.sqL hL) (fun i x H3 hx p => ?_) (fun H3 p => ?_)⟩
    · have hi : i < xs.length := (List.getElem?_eq_some_iff.mp hx).1
      obtain ⟨g, hg, hI⟩ := paired_get hp hx
      refine ⟨rfl, yes_ (iteT ?_)⟩
      refine ⟨z, rfl, x, rfl, z, x, fc, g, rfl, p.ext.tupI hZ, p.ext.tupI hI, hcl, p.ext.tb, fun u H4 e4 hu h4 => ?_⟩
      have hD3 : ∃ o, H3 D0 = some o := let ⟨ys, h1, _⟩ := p.at_; ⟨_, h1⟩
      obtain ⟨o, ho⟩ := hD3
      have hn := comL_len fc g
      obtain ⟨acc, r1, r2, r3⟩ := CP.putL hD (by omega) (p.skipL e4) (show LIn D0 H4 (.ref u) (comL fc g) from ⟨u, rfl, Ne.symm (ne_of_none ho hu), h4, by omega⟩)
      refine ⟨acc, r1, r2, ?_⟩
      rw [List.take_add_one, hg, List.map_append]
      exact r3
    rw [hxl, List.take_length] at p
    obtain ⟨ys, s1, s2, s3⟩ := p.at_
    have hyl := Paired.length s2
    rw [List.length_map] at hyl
    have x3 := p.ext
    generalize hS : fss.map (comL fc) = S at *
    -- beside
    refine ⟨.ref D0, rfl, D0, rfl, ⟨_, .inl (.inl s1)⟩, fun D1 hD1 => lc_list (K := K) (a := D0) (xs := ys) (fun i H4 => CP Ps (LIn D1) H3 D1 ((S.take i).filter fun o => decide ((o.length : Int) = kk - 1)) i H4) (CP.start x3.tb hD1) (fun i H4 _ p => p.ext.sqL (.inl (.inl s1))) (fun i x H4 hx p => ?_) (fun H4 p => ?_)⟩
    · have hi : i < ys.length := (List.getElem?_eq_some_iff.mp hx).1
      obtain ⟨g, hg, hI⟩ := paired_get s2 hx
      have hI1 : LIn D1 H4 x g := LIn.ext p.ext (hI.other hD1)
      obtain ⟨u, rfl, hu1, hu2, hu3⟩ := id hI1
      have e := filter_step (q := fun o : List Int => decide ((o.length : Int) = kk - 1)) hg
      refine ⟨rfl, .ref u, rfl, u, _, rfl, .inl (.inl (.inl hu2)), .int kk, rfl, kk, 1, rfl, rfl, rfl, _, rfl, ite2 (fun hc => ?_) (fun hc => ?_)⟩
      · rw [List.length_map] at hc
        have hc' : decide ((g.length : Int) = kk - 1) = true := by
          have z : V.int (g.length : Int) = V.int (kk - 1) := of_decide_eq_true hc
          injection z with z
          exact decide_eq_true z
        rw [if_pos hc'] at e
        obtain ⟨acc, r1, r2, r3⟩ := CP.putL hD1 (by omega) p hI1
        exact ⟨.ref u, rfl, acc, r1, r2, by rw [e]; exact r3⟩
      · rw [List.length_map] at hc
        have hc' : ¬ decide ((g.length : Int) = kk - 1) = true := fun z => hc (decide_eq_true (congrArg V.int (of_decide_eq_true z)))
        rw [if_neg hc', List.append_nil] at e
        rw [e]
        exact p.mono (Nat.le_succ i)
    have hyS : ys.length = S.length := Paired.length s2
    rw [hyS, List.take_length] at p
    obtain ⟨bs, b1, b2, b3⟩ := p.at_
    have p4 := p
    generalize hB : (S.filter fun o => decide ((o.length : Int) = kk - 1)) = B at *
    have x4 : Ext Ps H H4 := x3.trans p4.ext
    have hys4 : SqL K H4 D0 ys := .inl (.inl (p4.ext.lst s1))
    have hmay : mayL kk fss fc = ((S.all fun own => B.any fun one => hasAll one own) && !decide (fc ∈ fss)) := by
      unfold mayL
      rw [hS, hB]
    -- for own in some
    refine ⟨.ref D0, rfl, D0, rfl, ⟨_, hys4⟩, for_list (K := K) (a := D0) (xs := ys) (fun i σ H5 => Ext Ps H4 H5 ∧ (S.take i).all (fun own => B.any fun one => hasAll one own) = true ∧ ∃ y5 y6, σ = [some (.int kk), some (.ref l), some z, some (.ref D0), some (.ref D1), y5, y6]) ⟨Ext.refl x4.tb, rfl, none, none, rfl⟩ (fun i σ H5 _ p => p.1.sqL hys4) (fun i x σ H5 hx p => ?_) (fun σ H5 p => ?_)⟩
    · obtain ⟨e5, ha, y5, y6, rfl⟩ := p
      obtain ⟨g, hg, hI⟩ := paired_get s2 hx
      have hI5 : LIn D0 H5 x g := LIn.ext e5 (LIn.ext p4.ext hI)
      obtain ⟨u, rfl, hu1, hu2, hu3⟩ := id hI5
      refine ⟨.ref D1, rfl, D1, rfl, ⟨_, .inl (.inl (e5.lst b1))⟩, fun D2 hD2 => lc_list (K := K) (a := D1) (xs := bs) (fun j H6 => CP Ps (LIn D2) H5 D2 ((B.take j).filter fun one => hasAll one g) j H6) (CP.start e5.tb hD2) (fun j H6 _ p => p.ext.sqL (.inl (.inl (e5.lst b1)))) (fun j y H6 hy p => ?_) (fun H6 p => ?_)⟩
      · have hj : j < bs.length := (List.getElem?_eq_some_iff.mp hy).1
        obtain ⟨h, hh, hJ⟩ := paired_get b2 hy
        have hJ2 : LIn D2 H6 y h := LIn.ext p.ext (LIn.other (LIn.ext e5 hJ) hD2)
        have e := filter_step (q := fun one : List Int => hasAll one g) hh
        have hbl := Paired.length b2
        have hBl : B.length ≤ 100 := by
          have z1 : B.length ≤ S.length := by rw [← hB]; exact List.length_filter_le _ _
          have z2 : S.length = fss.length := by rw [← hS, List.length_map]
          omega
        refine ⟨rfl, .ref u, rfl, y, rfl, .ref u, y, g, h, rfl, LIn.seq (LIn.ext p.ext hI5), LIn.seq hJ2, hu3, p.ext.tb, fun H7 e7 => ⟨_, rfl, ite2 (fun hc => ?_) (fun hc => ?_)⟩⟩
        · have hc' : hasAll h g = true := hc
          rw [if_pos hc'] at e
          obtain ⟨acc, r1, r2, r3⟩ := CP.putL hD2 (by omega) (p.skipL e7) (LIn.ext e7 hJ2)
          exact ⟨y, rfl, acc, r1, r2, by rw [e]; exact r3⟩
        · have hc' : ¬ hasAll h g = true := hc
          rw [if_neg hc', List.append_nil] at e
          rw [e]
          exact (p.skipL e7).mono (Nat.le_succ j)
      · rw [Paired.length b2, List.take_length] at p
        obtain ⟨zs, c1, c2, c3⟩ := p.at_
        refine ⟨Nat.zero_le _, fun u2 hu2 => ?_⟩
        have x7 := Ext.new (o := .lst []) p.ext.tb hu2
        refine ⟨_, .list (iD []), .lst (.inl (.inl (x7.lst c1))) (dp_lls (L2.Paired.mapP c2 fun _ _ z => LIn.ext x7 z)), .lst (xs := []) (.inl (.inl upd_same)) .nil, shp_lls _, shp_list [], _, rfl, ?_⟩
        have ev : PyData.eqv (.list ((B.filter fun one => hasAll one g).map lD)) (.list (iD [])) = !(B.any fun one => hasAll one g) := by
          rw [PyData.eqv]
          cases e : B.filter (fun one => hasAll one g) with
          | nil =>
            have : B.any (fun one => hasAll one g) = false := by
              rw [List.any_eq_false]
              intro o ho
              exact List.filter_eq_nil_iff.mp e o ho
            rw [this]
            rfl
          | cons o os =>
            have hm : o ∈ B.filter (fun one => hasAll one g) := by rw [e]; exact List.mem_cons_self
            have : B.any (fun one => hasAll one g) = true := List.any_eq_true.mpr ⟨o, (List.mem_filter.mp hm).1, (List.mem_filter.mp hm).2⟩
            rw [this]
            rfl
        rw [ev]
        refine ite2 (fun hc => ?_) (fun hc => ?_)
        · have hc' : (B.any fun one => hasAll one g) = false := by simpa using hc
          have hf : (S.all fun own => B.any fun one => hasAll one own) = false := by
            rw [List.all_eq_false]
            exact ⟨g, List.mem_of_getElem? hg, by rw [hc']; simp⟩
          have z := q _ (x4.trans (e5.trans (p.ext.trans x7)))
          rw [hmay, hf, Bool.false_and] at z
          exact z
        · have hc' : (B.any fun one => hasAll one g) = true := by simpa using hc
          refine ⟨e5.trans (p.ext.trans x7), ?_, some (.ref u), y6, rfl⟩
          rw [List.take_add_one, hg, List.all_append, ha]
          show (true && ((B.any fun one => hasAll one g) && true)) = true
          rw [hc']
          rfl
    · obtain ⟨e5, ha, y5, y6, rfl⟩ := p
      rw [hyS, List.take_length] at ha
      have x5 := x4.trans e5
      have z := q _ x5
      rw [hmay, ha, Bool.true_and] at z
      have ev : ((fss.map tD).any fun z => PyData.eqv z (tD fc)) = decide (fc ∈ fss) := by
        rw [List.any_map, Bool.eq_iff_iff, List.any_eq_true, decide_eq_true_eq]
        constructor
        · rintro ⟨g, hg, hh⟩
          have hh' : PyData.eqv (tD g) (tD fc) = true := hh
          rw [eqv_tD, decide_eq_true_eq] at hh'
          exact hh' ▸ hg
        · intro hg
          exact ⟨fc, hg, by show PyData.eqv (tD fc) (tD fc) = true; rw [eqv_tD]; exact decide_eq_true rfl⟩
      refine ⟨_, rfl, .ref l, rfl, tD fc, fss.map tD, dp_tup (x5.tupI hZ), dp_lst (x5.lstT ⟨l, xs, rfl, hL, hp⟩), shp_tup fc, shp_tups fss, ?_⟩
      rw [ev]
      exact z
end
end Lf

set_option maxHeartbeats 2000000
namespace Lf
open PySem PySem.Spec PyProof.Rows L2 GxR GxA SrT RZ
/-! ### data that stand in the heap -/
section
variable {K : PySem.W.Frag} {Ps : Tbs} {H H' : Hp}
mutual
theorem Ext.dp (e : Ext Ps H H') : ∀ {d : PyData} {x : V}, Dp K H x d → Dp K H' x d
  | .none, _, h => by cases h; exact .non
  | .bool b, _, h => by cases h; exact .bl b
  | .int i, _, h => by cases h; exact .int i
  | .str y, _, h => by cases h; exact .str y
  | .list ds, _, h => by
    cases h with
    | lst hs ha => exact .lst (e.sqL hs) (Ext.dpAll e ha)
  | .tuple ds, _, h => by
    cases h with
    | tup hs ha => exact .tup (e.sqT hs) (Ext.dpAll e ha)
  | .dict _, _, h => nomatch h
theorem Ext.dpAll (e : Ext Ps H H') : ∀ {ds : List PyData} {xs : List V}, DpAll K H xs ds → DpAll K H' xs ds
  | [], _, h => by cases h; exact .nil
  | d :: ds, _, h => by
    cases h with
    | cons h1 h2 => exact .cons (Ext.dp e h1) (Ext.dpAll e h2)
end
theorem dpAll_len : ∀ {ds : List PyData} {xs : List V}, DpAll K H xs ds → xs.length = ds.length
  | [], _, h => by cases h; rfl
  | d :: ds, _, h => by
    cases h with
    | cons h1 h2 => rw [List.length_cons, List.length_cons, dpAll_len h2]
theorem dpAll_get : ∀ {ds : List PyData} {xs : List V} {i : Nat} {x : V}, DpAll K H xs ds → xs[i]? = some x → ∃ d, ds[i]? = some d ∧ Dp K H x d
  | [], _, i, x, h, e => by
    cases h
    simp at e
  | d :: ds, _, 0, x, h, e => by
    cases h with
    | cons h1 h2 =>
      cases e
      exact ⟨d, rfl, h1⟩
  | d :: ds, _, i + 1, x, h, e => by
    cases h with
    | cons h1 h2 =>
      obtain ⟨d', q1, q2⟩ := dpAll_get (i := i) (x := x) h2 (by simpa using e)
      exact ⟨d', by simpa using q1, q2⟩
/-- the type's name -/
def tyN : PyData → String
  | .none => "NoneType"
  | .bool _ => "bool"
  | .int _ => "int"
  | .str _ => "str"
  | .list _ => "list"
  | .tuple _ => "tuple"
  | .dict _ => "dict"
theorem ty_lst {a : Addr} {xs : List V} (h : SqL K H a xs) : TyX K H (.ref a) (.type "list") := by
  rcases h with (h | ⟨o, h⟩) | ⟨o, _, _, h, h2, _⟩
  · exact .base (.lst h)
  · exact .base (.frz h)
  · exact .kList h h2
theorem dp_ty {x : V} {d : PyData} (h : Dp K H x d) : TyX K H x (.type (tyN d)) := by
  cases h with
  | non => exact .base .non
  | bl b => exact .base (.bl b)
  | int i => exact .base (.int i)
  | str y => exact .base (.str y)
  | lst hs ha => exact ty_lst hs
  | tup hs ha => exact ty_tup hs
end
def FBl : Hp → V → Bool → Prop := fun _ x b => x = .bl b
theorem stbB {K : PySem.W.Frag} {Ps : Tbs} : Stb K Ps FBl := ⟨fun _ _ _ _ _ h => h, fun _ _ _ _ _ _ _ h => h⟩
theorem paired_bls {H : Hp} : ∀ {ys : List V} {bs : List Bool}, Paired (FBl H) ys bs → ys = bs.map V.bl
  | _, _, .nil => rfl
  | _, _, .cons r t => by
    rw [List.map_cons, ← paired_bls t, show _ = V.bl _ from r]
/-- [.. for x, y in zip(two lists)] -/
theorem lc_zipL {K : PySem.W.Frag} {a b : Addr} {xs ys : List V} {g : TG} {tt : TT} {te : TE} {vs : List Nat} {σ : L2.St} {H1 : Hp} {D : Addr} {Qd : Hp → Prop} (hl : xs.length = ys.length) (Pv : Nat → Hp → Prop) (h0 : Pv 0 (upd H1 D (.lst []))) (hq : ∀ i H, Pv i H → SqL K H a xs ∧ SqL K H b ys)
    (hs : ∀ i x y H T, xs[i]? = some x → ys[i]? = some y → Pv i H → H T = none → g (.ref T) (wipe σ vs) (upd H T (.tup [x, y])) fun σ2 H2 => wipe σ2 vs = wipe σ vs ∧ tt σ2 H2 fun b H3 =>
      if b = true then te σ2 H3 fun y H4 => ∃ acc, H4 D = some (.lst acc) ∧ acc.length < sizeLine ∧ Pv (i + 1) (upd H4 D (.lst (acc ++ [y]))) else Pv (i + 1) H3) (hd : ∀ H, Pv xs.length H → Qd H) :
    ∃ W : Nat → Nat → Hp → Prop, (∃ m, W 0 m (upd H1 D (.lst []))) ∧ ∀ i m H, W i m H →
      ((Itz K a b).stop i H ∧ Qd H) ∨ ((Itz K a b).go i H ∧ ∃ Nx : Hp → Prop, (∀ H', Nx H' → ∃ m', m' < m ∧ W (i + 1) m' H') ∧ ∀ x H', (Itz K a b).yld i H x H' → g x (wipe σ vs) H' fun σ2 H2 => wipe σ2 vs = wipe σ vs ∧ tt σ2 H2 fun b H3 =>
        if b = true then te σ2 H3 fun y H4 => ∃ acc, H4 D = some (.lst acc) ∧ acc.length < sizeLine ∧ Nx (upd H4 D (.lst (acc ++ [y]))) else Nx H3) := by
  refine ⟨fun i m H => m = xs.length - i ∧ i ≤ xs.length ∧ Pv i H, ⟨xs.length, by simp, Nat.zero_le _, h0⟩, ?_⟩
  rintro i m H ⟨rfl, hi, p⟩
  obtain ⟨q1, q2⟩ := hq i H p
  by_cases hlt : i < xs.length
  · have hlt2 : i < ys.length := by omega
    refine .inr ⟨⟨xs, ys, xs[i], ys[i], q1, q2, List.getElem?_eq_getElem hlt, List.getElem?_eq_getElem hlt2⟩, Pv (i + 1), fun H' p' => ⟨xs.length - (i + 1), by omega, rfl, hlt, p'⟩, fun x H' y => ?_⟩
    obtain ⟨T, z, u, rfl, hT, rfl, hz, hu⟩ := y
    exact hs i z u H T (hz xs q1) (hu ys q2) p hT
  · have e : i = xs.length := by omega
    subst e
    exact .inl ⟨⟨xs, ys, q1, q2, .inl (Nat.le_refl _)⟩, hd H p⟩
theorem lc_zipT {K : PySem.W.Frag} {a b : Addr} {xs ys : List V} {g : TG} {tt : TT} {te : TE} {vs : List Nat} {σ : L2.St} {H1 : Hp} {D : Addr} {Qd : Hp → Prop} (hl : xs.length = ys.length) (Pv : Nat → Hp → Prop) (h0 : Pv 0 (upd H1 D (.lst []))) (hq : ∀ i H, Pv i H → SqT K H a xs ∧ SqT K H b ys)
    (hs : ∀ i x y H T, xs[i]? = some x → ys[i]? = some y → Pv i H → H T = none → g (.ref T) (wipe σ vs) (upd H T (.tup [x, y])) fun σ2 H2 => wipe σ2 vs = wipe σ vs ∧ tt σ2 H2 fun b H3 =>
      if b = true then te σ2 H3 fun y H4 => ∃ acc, H4 D = some (.lst acc) ∧ acc.length < sizeLine ∧ Pv (i + 1) (upd H4 D (.lst (acc ++ [y]))) else Pv (i + 1) H3) (hd : ∀ H, Pv xs.length H → Qd H) :
    ∃ W : Nat → Nat → Hp → Prop, (∃ m, W 0 m (upd H1 D (.lst []))) ∧ ∀ i m H, W i m H →
      ((ItzT K a b).stop i H ∧ Qd H) ∨ ((ItzT K a b).go i H ∧ ∃ Nx : Hp → Prop, (∀ H', Nx H' → ∃ m', m' < m ∧ W (i + 1) m' H') ∧ ∀ x H', (ItzT K a b).yld i H x H' → g x (wipe σ vs) H' fun σ2 H2 => wipe σ2 vs = wipe σ vs ∧ tt σ2 H2 fun b H3 =>
        if b = true then te σ2 H3 fun y H4 => ∃ acc, H4 D = some (.lst acc) ∧ acc.length < sizeLine ∧ Nx (upd H4 D (.lst (acc ++ [y]))) else Nx H3) := by
  refine ⟨fun i m H => m = xs.length - i ∧ i ≤ xs.length ∧ Pv i H, ⟨xs.length, by simp, Nat.zero_le _, h0⟩, ?_⟩
  rintro i m H ⟨rfl, hi, p⟩
  obtain ⟨q1, q2⟩ := hq i H p
  by_cases hlt : i < xs.length
  · have hlt2 : i < ys.length := by omega
    refine .inr ⟨⟨xs, ys, xs[i], ys[i], q1, q2, List.getElem?_eq_getElem hlt, List.getElem?_eq_getElem hlt2⟩, Pv (i + 1), fun H' p' => ⟨xs.length - (i + 1), by omega, rfl, hlt, p'⟩, fun x H' y => ?_⟩
    obtain ⟨T, z, u, rfl, hT, rfl, hz, hu⟩ := y
    exact hs i z u H T (hz xs q1) (hu ys q2) p hT
  · have e : i = xs.length := by omega
    subst e
    exact .inl ⟨⟨xs, ys, q1, q2, .inl (Nat.le_refl _)⟩, hd H p⟩
end Lf

set_option maxHeartbeats 4000000
namespace Lf
open PySem PySem.Spec PyProof.Rows L2 GxR GxA SrT RZ
abbrev sSame : Stmt := topS 45
abbrev nSame : List Str := ["_law_found", "_law_due", "_law_one", "_law_other"]
theorem scSame : FnScope nSame ["_law_found", "_law_due"] (defScope sSame) := ⟨rfl, rfl, rfl, by decide +kernel, rfl, by decide +kernel, by decide +kernel⟩
theorem lay_mem : ∀ {ds : List PyData} {d : PyData}, PyData.canLayAll0 ds = true → d ∈ ds → d.canLay0 = true
  | e :: ds, d, h, hd => by
    rw [PyData.canLayAll0, Bool.and_eq_true] at h
    rcases List.mem_cons.mp hd with q | q
    · rw [q]
      exact h.1
    · exact lay_mem h.2 q
theorem dep_mem : ∀ {ds : List PyData} {d : PyData}, d ∈ ds → d.depth ≤ PyData.depthAll ds
  | e :: ds, d, hd => by
    rw [PyData.depthAll]
    rcases List.mem_cons.mp hd with q | q
    · rw [q]
      exact Nat.le_max_left _ _
    · exact Nat.le_trans (dep_mem q) (Nat.le_max_right _ _)
mutual
/-- no list and no tuple of more than a thousand -/
def wide : PyData → Bool
  | .list ds => decide (ds.length ≤ 1000) && wideAll ds
  | .tuple ds => decide (ds.length ≤ 1000) && wideAll ds
  | .dict _ => true
  | .none => true
  | .bool _ => true
  | .int _ => true
  | .str _ => true
def wideAll : List PyData → Bool
  | [] => true
  | d :: ds => wide d && wideAll ds
end
theorem wideAll_mem : ∀ {ds : List PyData} {d : PyData}, wideAll ds = true → d ∈ ds → wide d = true
  | e :: ds, d, h, hd => by
    rw [wideAll, Bool.and_eq_true] at h
    rcases List.mem_cons.mp hd with q | q
    · rw [q]
      exact h.1
    · exact wideAll_mem h.2 q
/-- isinstance of data, by the type's name -/
theorem isi_b {K : PySem.W.Frag} {b : String} {d : PyData} {r : Bool} (h : kitB (tyN d) b = some r) : PySem.W.kitOne K (.type (tyN d)) (.type b) = some r := kit_ty h
section
variable {P : Program} {w : World} {K : PySem.W.Frag} {mg : Str → Option Value} {base : Heap} {Ps : Tbs} {H H' H0 : Hp} {f c : Addr} {fd : FuncData}
/-- the same data are told to be the same -/
def spSame (K : PySem.W.Frag) (Ps : Tbs) : Nat → Sp
  | 0 => fun _ _ _ _ => False
  | m + 1 => fun vs H Q _ => ∃ (x y : V) (d : PyData), vs = [x, y] ∧ Dp K H x d ∧ Dp K H y d ∧ d.canLay0 = true ∧ wide d = true ∧ d.depth ≤ m ∧ m ≤ 60 ∧ Tb Ps H ∧ ∀ H', Ext Ps H H' → Q (.bl true) H'
theorem same_step {m : Nat} (D : Def K mg "_law_same" sSame ["_law_found", "_law_due"] f fd c) (GS : FnOk P w K mg base CX0 m f fd ["_law_found", "_law_due"] (spSame K Ps m)) (mi : mg "isinstance" = none) (mL : mg "list" = none) (mT : mg "tuple" = none) (mS : mg "str" = none) (mB : mg "bool" = none) (mI : mg "int" = none)
    (ml : mg "len" = none) (ma : mg "all" = none) (mz : mg "zip" = none) : FnOk P w K mg base CX0 (m + 1) f fd ["_law_found", "_law_due"] (spSame K Ps (m + 1)) := by
  refine D.ok (k := m) scSame (fun vs H Q E h => ?_) (fun A outer s H vs Q E hr h => ?_)
  · obtain ⟨x, y, d, rfl, _⟩ := h
    rfl
  · obtain ⟨x, y, d, rfl, hx, hy, hL, hW, hd, hm, ht, q⟩ := h
    refine ⟨_, (pss_cons (ps_if (pt_cmpR op_isN (pv 1) pe_non (nomark _)) (pss_one (ps_ret (pe_cmpR op_isN (pv 0) pe_non (nomark _)))) pss_nil) (pss_cons (ps_if (pt_val (pe_callB call_isiT (by rfl) mi (by decide +kernel) (pa_cons (pv 1) (pa_cons (pe_tup (pa_cons (pe_bltn (v := .ty "list") (by rfl) mL (by decide +kernel) rfl) (pa_cons (pe_bltn (v := .ty "tuple") (by rfl) mT (by decide +kernel) rfl) pa_nil))) pa_nil)))) (pss_cons (ps_if (pt_cmpR op_ne (pe_callB call_isi (by rfl) mi (by decide +kernel) (pa_cons (pv 1) (pa_cons (pe_bltn (v := .ty "list") (by rfl) mL (by decide +kernel) rfl) pa_nil))) (pe_callB call_isi (by rfl) mi (by decide +kernel) (pa_cons (pv 0) (pa_cons (pe_bltn (v := .ty "list") (by rfl) mL (by decide +kernel) rfl) pa_nil))) (nomark _)) (pss_one (ps_ret pe_bl)) pss_nil) (pss_cons (ps_if (PW.pt (pw_or (pt_cmpR op_ne (pe_callB call_isi (by rfl) mi (by decide +kernel) (pa_cons (pv 1) (pa_cons (pe_bltn (v := .ty "tuple") (by rfl) mT (by decide +kernel) rfl) pa_nil))) (pe_callB call_isi (by rfl) mi (by decide +kernel) (pa_cons (pv 0) (pa_cons (pe_bltn (v := .ty "tuple") (by rfl) mT (by decide +kernel) rfl) pa_nil))) (nomark _)) (pw_or1 (pt_cmpR op_ne (pe_callB (call_lenS (K := K) rfl) (by rfl) ml PySem.boot_len (pa_cons (pv 0) pa_nil)) (pe_callB (call_lenS (K := K) rfl) (by rfl) ml PySem.boot_len (pa_cons (pv 1) pa_nil)) (nomark _))))) (pss_one (ps_ret pe_bl)) pss_nil) (pss_one (ps_ret (pe_callB (cr_all rfl) (by rfl) ma (by decide +kernel) (pa_cons (pe_lc (own := [("_law_one", 2), ("_law_other", 3)]) (g := gTup K 2 (gCons (gName 2) (gCons (gName 3) gNil))) (by rfl) scSame.nd (pi_zipA (by rfl) mz (pa_cons (pv 0) (pa_cons (pv 1) pa_nil))) (blkOk_by (N := nSame) (sc := defScope sSame) (by decide +kernel)) (fun _ _ _ _ _ => pg_tup rfl (pgs_cons (pg_name (i := 2) scSame.nd rfl (Or.inl rfl)) (pgs_cons (pg_name (i := 3) scSame.nd rfl (Or.inl rfl)) pgs_nil))) (fun _ _ _ _ _ => pts_nil) (fun _ _ _ _ _ => (pcl D GS hr (pa_cons (pv 2) (pa_cons (pv 3) pa_nil))))) pa_nil)))))) pss_nil) (pss_cons (ps_if (pt_val (pe_callB call_isi (by rfl) mi (by decide +kernel) (pa_cons (pv 1) (pa_cons (pe_bltn (v := .ty "str") (by rfl) mS (by decide +kernel) rfl) pa_nil)))) (pss_one (ps_ret (pe_and (pe_callB call_isi (by rfl) mi (by decide +kernel) (pa_cons (pv 0) (pa_cons (pe_bltn (v := .ty "str") (by rfl) mS (by decide +kernel) rfl) pa_nil))) (pe_one (pe_cmpR (op_eqD hr.units) (pv 0) (pv 1) (nomark _)))))) pss_nil) (pss_cons (ps_if (pt_cmpR op_ne (pe_callB call_isi (by rfl) mi (by decide +kernel) (pa_cons (pv 0) (pa_cons (pe_bltn (v := .ty "bool") (by rfl) mB (by decide +kernel) rfl) pa_nil))) (pe_callB call_isi (by rfl) mi (by decide +kernel) (pa_cons (pv 1) (pa_cons (pe_bltn (v := .ty "bool") (by rfl) mB (by decide +kernel) rfl) pa_nil))) (nomark _)) (pss_one (ps_ret pe_bl)) pss_nil) (pss_one (ps_ret (pe_and (pe_callB call_isi (by rfl) mi (by decide +kernel) (pa_cons (pv 0) (pa_cons (pe_bltn (v := .ty "int") (by rfl) mI (by decide +kernel) rfl) pa_nil))) (pe_one (pe_cmpR (op_eqD hr.units) (pv 0) (pv 1) (nomark _)))))))))), ?_⟩
    have two : (2 : Nat) ≤ sizeLine := by decide
    have no2 : ∀ {t : String}, kitB t "list" = some false → kitB t "tuple" = some false → PySem.W.kitAny K (.type t) [.type "list", .type "tuple"] = some false := fun h1 h2 => kitAny_cons (kit_ty h1) (fun _ => kitAny_cons (kit_ty h2) (fun _ => rfl) (fun z => nomatch z)) (fun z => nomatch z)
    have fin : ∀ {HX : Hp} {v : V} {dd : PyData}, Ext Ps H HX → SeqAt.shaped dd = true → Dp K HX v dd → Dp K HX y dd → v = x → PyData.eqv dd dd = true → rEqD K v y HX Q := fun e1 sh h1 h2 ev hq => ⟨_, _, h1, h2, sh, sh, by rw [hq]; exact q _ e1⟩
    cases d with
    | none =>
      cases hx
      cases hy
      exact ⟨.non, rfl, rfl, true, rfl, iteT ⟨.non, rfl, rfl, q _ (Ext.refl ht)⟩⟩
    | bool b =>
      cases hx
      cases hy
      refine ⟨.bl b, rfl, rfl, false, rfl, iteF ⟨.bl b, rfl, two, fun T hT => ?_⟩⟩
      have e1 := Ext.new (o := .tup [.ty "list", .ty "tuple"]) ht hT
      refine ⟨.bl b, T, [.ty "list", .ty "tuple"], .type "bool", [.type "list", .type "tuple"], false, rfl, upd_same, .cons (.ty _) (.cons (.ty _) .nil), .base (.bl b), no2 (by decide +kernel) (by decide +kernel), false, rfl, iteF ?_⟩
      refine ⟨.bl b, rfl, .bl b, .ty "str", .type "bool", .type "str", false, rfl, .ty _, .base (.bl b), kit_ty (by decide +kernel), false, rfl, iteF ?_⟩
      refine ⟨.bl b, rfl, .bl b, .ty "bool", .type "bool", .type "bool", true, rfl, .ty _, .base (.bl b), kit_ty (by decide +kernel), .bl b, rfl, .bl b, .ty "bool", .type "bool", .type "bool", true, rfl, .ty _, .base (.bl b), kit_ty (by decide +kernel), rfl, false, rfl, iteF ?_⟩
      exact ⟨.bl b, rfl, .bl b, .ty "int", .type "bool", .type "int", true, rfl, .ty _, .base (.bl b), kit_ty (by decide +kernel), true, rfl, iteT ⟨.bl b, rfl, .bl b, rfl, fin e1 rfl (.bl b) (.bl b) rfl (by cases b <;> rfl)⟩⟩
    | int i =>
      cases hx
      cases hy
      refine ⟨.int i, rfl, rfl, false, rfl, iteF ⟨.int i, rfl, two, fun T hT => ?_⟩⟩
      have e1 := Ext.new (o := .tup [.ty "list", .ty "tuple"]) ht hT
      refine ⟨.int i, T, [.ty "list", .ty "tuple"], .type "int", [.type "list", .type "tuple"], false, rfl, upd_same, .cons (.ty _) (.cons (.ty _) .nil), .base (.int i), no2 (by decide +kernel) (by decide +kernel), false, rfl, iteF ?_⟩
      refine ⟨.int i, rfl, .int i, .ty "str", .type "int", .type "str", false, rfl, .ty _, .base (.int i), kit_ty (by decide +kernel), false, rfl, iteF ?_⟩
      refine ⟨.int i, rfl, .int i, .ty "bool", .type "int", .type "bool", false, rfl, .ty _, .base (.int i), kit_ty (by decide +kernel), .int i, rfl, .int i, .ty "bool", .type "int", .type "bool", false, rfl, .ty _, .base (.int i), kit_ty (by decide +kernel), rfl, false, rfl, iteF ?_⟩
      exact ⟨.int i, rfl, .int i, .ty "int", .type "int", .type "int", true, rfl, .ty _, .base (.int i), kit_ty (by decide +kernel), true, rfl, iteT ⟨.int i, rfl, .int i, rfl, fin e1 rfl (.int i) (.int i) rfl (by simp [PyData.eqv])⟩⟩
    | str z =>
      cases hx
      cases hy
      refine ⟨.str z, rfl, rfl, false, rfl, iteF ⟨.str z, rfl, two, fun T hT => ?_⟩⟩
      have e1 := Ext.new (o := .tup [.ty "list", .ty "tuple"]) ht hT
      refine ⟨.str z, T, [.ty "list", .ty "tuple"], .type "str", [.type "list", .type "tuple"], false, rfl, upd_same, .cons (.ty _) (.cons (.ty _) .nil), .base (.str z), no2 (by decide +kernel) (by decide +kernel), false, rfl, iteF ?_⟩
      refine ⟨.str z, rfl, .str z, .ty "str", .type "str", .type "str", true, rfl, .ty _, .base (.str z), kit_ty (by decide +kernel), true, rfl, iteT ?_⟩
      have sh : SeqAt.shaped (.str z) = true := by
        unfold SeqAt.shaped
        rw [hL]
        rfl
      exact ⟨.str z, rfl, .str z, .ty "str", .type "str", .type "str", true, rfl, .ty _, .base (.str z), kit_ty (by decide +kernel), true, rfl, iteT ⟨.str z, rfl, .str z, rfl, fin e1 sh (.str z) (.str z) rfl (by simp [PyData.eqv])⟩⟩
    | list ds =>
      cases hx with
      | @lst a xs _ hs ha =>
      cases hy with
      | @lst b ys _ hs2 ha2 =>
      have hl1 := dpAll_len ha
      have hl2 := dpAll_len ha2
      have hlay : PyData.canLayAll0 ds = true := by simpa [PyData.canLay0] using hL
      have hdep : PyData.depthAll ds + 1 ≤ m := by simpa [PyData.depth] using hd
      have hww : (decide (ds.length ≤ 1000) && wideAll ds) = true := by simpa [wide] using hW
      have hw' : ds.length ≤ 1000 := of_decide_eq_true (Bool.and_eq_true_iff.mp hww).1
      obtain ⟨m', rfl⟩ : ∃ m', m = m' + 1 := ⟨m - 1, by omega⟩
      refine ⟨.ref b, rfl, rfl, false, rfl, iteF ⟨.ref b, rfl, two, fun T hT => ?_⟩⟩
      have e1 := Ext.new (o := .tup [.ty "list", .ty "tuple"]) ht hT
      have hs' := e1.sqL hs
      have hs2' := e1.sqL hs2
      refine ⟨.ref b, T, [.ty "list", .ty "tuple"], .type "list", [.type "list", .type "tuple"], true, rfl, upd_same, .cons (.ty _) (.cons (.ty _) .nil), ty_lst hs2', kitAny_cons (kit_ty (r := true) (by decide +kernel)) (fun z => nomatch z) (fun _ => rfl), true, rfl, iteT ?_⟩
      refine ⟨.ref b, rfl, .ref b, .ty "list", .type "list", .type "list", true, rfl, .ty _, ty_lst hs2', kit_ty (by decide +kernel), .ref a, rfl, .ref a, .ty "list", .type "list", .type "list", true, rfl, .ty _, ty_lst hs', kit_ty (by decide +kernel), rfl, false, rfl, iteF ?_⟩
      refine ⟨.ref b, rfl, .ref b, .ty "tuple", .type "list", .type "tuple", false, rfl, .ty _, ty_lst hs2', kit_ty (by decide +kernel), .ref a, rfl, .ref a, .ty "tuple", .type "list", .type "tuple", false, rfl, .ty _, ty_lst hs', kit_ty (by decide +kernel), rfl, false, rfl, iteF ?_⟩
      refine ⟨.ref a, rfl, a, xs, rfl, .inl hs', .ref b, rfl, b, ys, rfl, .inl hs2', rfl, false, ?_, iteF ?_⟩
      · rw [hl1, hl2]
        simp
      refine ⟨.ref a, rfl, .ref b, rfl, a, b, xs, ys, rfl, .inl ⟨hs', hs2', fun D0 hD => lc_zipL (K := K) (hl1.trans hl2.symm) (fun i H3 => CP Ps FBl (upd H T (.tup [.ty "list", .ty "tuple"])) D0 (List.replicate i true) i H3) (CP.start e1.tb hD) (fun i H3 p => ⟨p.ext.sqL hs', p.ext.sqL hs2'⟩) (fun i u v H3 T2 hu hv p hT2 => ?_) (fun H3 p => ?_)⟩⟩
      · obtain ⟨d1, k1, k2⟩ := dpAll_get ha hu
        obtain ⟨d2, k3, k4⟩ := dpAll_get ha2 hv
        rw [k1] at k3
        cases k3
        have hmem := List.mem_of_getElem? k1
        have hi : i < xs.length := (List.getElem?_eq_some_iff.mp hu).1
        have eT := Ext.new (o := .tup [u, v]) p.ext.tb hT2
        have p4 := p.skip (stbB (K := K)) eT
        have hT4 : SqT K (upd H3 T2 (.tup [u, v])) T2 [u, v] := .inl (.inl upd_same)
        generalize upd H3 T2 (.tup [u, v]) = H4 at *
        refine ⟨T2, _, rfl, hT4, rfl, _, _, rfl, _, _, rfl, rfl, rfl, yes_ (iteT ?_)⟩
        refine ⟨u, rfl, v, rfl, u, v, d1, rfl, p4.ext.dp (e1.dp k2), p4.ext.dp (e1.dp k4), lay_mem hlay hmem, wideAll_mem (Bool.and_eq_true_iff.mp hww).2 hmem, by have := dep_mem hmem; omega, by omega, p4.ext.tb, fun H5 e5 => ?_⟩
        have p5 := p4.skip (stbB (K := K)) e5
        have r := CP.put (stbB (K := K)) hD (by omega) p5 (show FBl H5 (.bl true) true from rfl)
        rw [List.replicate_succ']
        exact r
      · obtain ⟨zs, g1, g2, g3⟩ := p.at_
        have ez := paired_bls g2
        rw [ez] at g1
        refine ⟨D0, _, rfl, .inl (.inl g1), ?_⟩
        have hall : (List.replicate xs.length true).all id = true := by simp
        rw [hall]
        exact q _ (e1.trans p.ext)
    | tuple ds =>
      cases hx with
      | @tup a xs _ hs ha =>
      cases hy with
      | @tup b ys _ hs2 ha2 =>
      have hl1 := dpAll_len ha
      have hl2 := dpAll_len ha2
      have hlay : PyData.canLayAll0 ds = true := by simpa [PyData.canLay0] using hL
      have hdep : PyData.depthAll ds + 1 ≤ m := by simpa [PyData.depth] using hd
      have hww : (decide (ds.length ≤ 1000) && wideAll ds) = true := by simpa [wide] using hW
      have hw' : ds.length ≤ 1000 := of_decide_eq_true (Bool.and_eq_true_iff.mp hww).1
      obtain ⟨m', rfl⟩ : ∃ m', m = m' + 1 := ⟨m - 1, by omega⟩
      refine ⟨.ref b, rfl, rfl, false, rfl, iteF ⟨.ref b, rfl, two, fun T hT => ?_⟩⟩
      have e1 := Ext.new (o := .tup [.ty "list", .ty "tuple"]) ht hT
      have hs' := e1.sqT hs
      have hs2' := e1.sqT hs2
      refine ⟨.ref b, T, [.ty "list", .ty "tuple"], .type "tuple", [.type "list", .type "tuple"], true, rfl, upd_same, .cons (.ty _) (.cons (.ty _) .nil), ty_tup hs2', kitAny_cons (kit_ty (r := false) (by decide +kernel)) (fun _ => kitAny_cons (kit_ty (r := true) (by decide +kernel)) (fun z => nomatch z) (fun _ => rfl)) (fun z => nomatch z), true, rfl, iteT ?_⟩
      refine ⟨.ref b, rfl, .ref b, .ty "list", .type "tuple", .type "list", false, rfl, .ty _, ty_tup hs2', kit_ty (by decide +kernel), .ref a, rfl, .ref a, .ty "list", .type "tuple", .type "list", false, rfl, .ty _, ty_tup hs', kit_ty (by decide +kernel), rfl, false, rfl, iteF ?_⟩
      refine ⟨.ref b, rfl, .ref b, .ty "tuple", .type "tuple", .type "tuple", true, rfl, .ty _, ty_tup hs2', kit_ty (by decide +kernel), .ref a, rfl, .ref a, .ty "tuple", .type "tuple", .type "tuple", true, rfl, .ty _, ty_tup hs', kit_ty (by decide +kernel), rfl, false, rfl, iteF ?_⟩
      refine ⟨.ref a, rfl, a, xs, rfl, .inr hs', .ref b, rfl, b, ys, rfl, .inr hs2', rfl, false, ?_, iteF ?_⟩
      · rw [hl1, hl2]
        simp
      refine ⟨.ref a, rfl, .ref b, rfl, a, b, xs, ys, rfl, .inr ⟨hs', hs2', fun D0 hD => lc_zipT (K := K) (hl1.trans hl2.symm) (fun i H3 => CP Ps FBl (upd H T (.tup [.ty "list", .ty "tuple"])) D0 (List.replicate i true) i H3) (CP.start e1.tb hD) (fun i H3 p => ⟨p.ext.sqT hs', p.ext.sqT hs2'⟩) (fun i u v H3 T2 hu hv p hT2 => ?_) (fun H3 p => ?_)⟩⟩
      · obtain ⟨d1, k1, k2⟩ := dpAll_get ha hu
        obtain ⟨d2, k3, k4⟩ := dpAll_get ha2 hv
        rw [k1] at k3
        cases k3
        have hmem := List.mem_of_getElem? k1
        have hi : i < xs.length := (List.getElem?_eq_some_iff.mp hu).1
        have eT := Ext.new (o := .tup [u, v]) p.ext.tb hT2
        have p4 := p.skip (stbB (K := K)) eT
        have hT4 : SqT K (upd H3 T2 (.tup [u, v])) T2 [u, v] := .inl (.inl upd_same)
        generalize upd H3 T2 (.tup [u, v]) = H4 at *
        refine ⟨T2, _, rfl, hT4, rfl, _, _, rfl, _, _, rfl, rfl, rfl, yes_ (iteT ?_)⟩
        refine ⟨u, rfl, v, rfl, u, v, d1, rfl, p4.ext.dp (e1.dp k2), p4.ext.dp (e1.dp k4), lay_mem hlay hmem, wideAll_mem (Bool.and_eq_true_iff.mp hww).2 hmem, by have := dep_mem hmem; omega, by omega, p4.ext.tb, fun H5 e5 => ?_⟩
        have p5 := p4.skip (stbB (K := K)) e5
        have r := CP.put (stbB (K := K)) hD (by omega) p5 (show FBl H5 (.bl true) true from rfl)
        rw [List.replicate_succ']
        exact r
      · obtain ⟨zs, g1, g2, g3⟩ := p.at_
        have ez := paired_bls g2
        rw [ez] at g1
        refine ⟨D0, _, rfl, .inl (.inl g1), ?_⟩
        have hall : (List.replicate xs.length true).all id = true := by simp
        rw [hall]
        exact q _ (e1.trans p.ext)
    | dict kvs => exact nomatch hx
theorem ok_same (D : Def K mg "_law_same" sSame ["_law_found", "_law_due"] f fd c) (mi : mg "isinstance" = none) (mL : mg "list" = none) (mT : mg "tuple" = none) (mS : mg "str" = none) (mB : mg "bool" = none) (mI : mg "int" = none) (ml : mg "len" = none) (ma : mg "all" = none) (mz : mg "zip" = none) :
    ∀ m, FnOk P w K mg base CX0 m f fd ["_law_found", "_law_due"] (spSame K Ps m)
  | 0 => ⟨fun _ _ _ _ h => h.elim, fun _ _ _ _ _ _ _ _ _ _ _ _ _ h => h.elim⟩
  | m + 1 => same_step D (ok_same D mi mL mT mS mB mI ml ma mz m) mi mL mT mS mB mI ml ma mz
end
end Lf

set_option maxHeartbeats 2000000
namespace Lf
open PySem PySem.Spec PyProof.Rows L2 GxR GxA SrT
abbrev nLink : List Str := ["stack", "part", "n", "k", "faces", "rest", "face"]
section
variable {P : Program} {w : World} {K : PySem.W.Frag} {mg : Str → Option Value} {base : Heap} {Ps : Tbs} {H H' H0 : Hp} {k : Nat} {f c : Addr} {fd : FuncData}
/-- a stack, and a rising tuple of points -/
structure AskP (K : PySem.W.Frag) (Ps : Tbs) (H : Hp) (x y : V) (n k : Int) (fss : List (List Int)) (z : List Int) : Prop where
  stk : Stk K H x n k fss
  ok : StkOk n k fss
  part : TupI K H y z
  ris : RisB n.toNat z
  tb : Tb Ps H
theorem AskP.ext {x y : V} {n k : Int} {fss : List (List Int)} {z : List Int} (h : AskP K Ps H x y n k fss z) (e : Ext Ps H H') : AskP K Ps H' x y n k fss z := ⟨e.stk h.stk, h.ok, e.tupI h.part, h.ris, e.tb⟩
theorem RisB.len {n : Nat} {g : List Int} (h : RisB n g) : g.length ≤ n := by
  have z := nd_le h.nd (D := rng n) fun x hx => in_rng (h.2 x hx).1 (h.2 x hx).2
  rw [rng_len] at z
  exact z
/-! ### is_part, need_part -/
def spIsPart (K : PySem.W.Frag) (Ps : Tbs) : Sp := fun vs H Q _ => ∃ (x y : V) (n kk : Int) (fss : List (List Int)) (z : List Int), vs = [x, y] ∧ AskP K Ps H x y n kk fss z ∧ ∀ H', Ext Ps H H' → Q (.bl (inSome z fss)) H'
def spNeedPart (K : PySem.W.Frag) (Ps : Tbs) : Sp := fun vs H Q _ => ∃ (x y : V) (n kk : Int) (fss : List (List Int)) (z : List Int), vs = [x, y] ∧ AskP K Ps H x y n kk fss z ∧ inSome z fss = true ∧ ∀ H', Ext Ps H H' → Q .non H'
/-! ### sides -/
def sidesN (fc : List Int) (kk : Int) : List (List Int) := (sortL (subsL fc)).filter fun p => decide ((p.length : Int) = kk - 1)
def spSides (K : PySem.W.Frag) (Ps : Tbs) : Sp := fun vs H Q _ => ∃ (x : V) (n kk i : Int) (fss : List (List Int)) (fc : List Int), vs = [x, .int i] ∧ Stk K H x n kk fss ∧ StkOk n kk fss ∧ 0 ≤ i ∧ i < (fss.length : Int) ∧ fss[i.toNat]? = some fc ∧ Tb Ps H ∧
  ∀ (l : Addr) (ys : List V) (H' : Hp), Ext Ps H H' → H l = none → H' l = some (.lst ys) → Paired (TupI K H') ys (sidesN fc kk) → Q (.ref l) H'
end
end Lf

set_option maxHeartbeats 2000000
namespace Lf
open PySem PySem.Spec PyProof.Rows L2 GxR GxA SrT
/-! ### links: the mathematics -/
def restL (fss : List (List Int)) (z : List Int) : List (List Int) := (fss.filter fun f => hasAll f z).map fun f => lessL f z
def linkL (fss : List (List Int)) (z : List Int) : List (List Int) := sortL (restL fss z)
theorem mem_lessL {f z : List Int} {x : Int} : x ∈ lessL f z ↔ x ∈ f ∧ x ∉ z := by
  unfold lessL
  rw [List.mem_filter]
  simp
theorem lessL_sub (f z : List Int) : (lessL f z).Sublist f := List.filter_sublist
theorem mem_linkL {fss : List (List Int)} {z g : List Int} : g ∈ linkL fss z ↔ ∃ f ∈ fss, (∀ x ∈ z, x ∈ f) ∧ g = lessL f z := by
  unfold linkL restL
  rw [(sortL_perm _).mem_iff, List.mem_map]
  constructor
  · rintro ⟨f, hf, e⟩
    obtain ⟨h1, h2⟩ := List.mem_filter.mp hf
    exact ⟨f, h1, hasAll_true.mp h2, e.symm⟩
  · rintro ⟨f, h1, h2, e⟩
    exact ⟨f, List.mem_filter.mpr ⟨h1, hasAll_true.mpr h2⟩, e.symm⟩
/-- how many are left -/
theorem lessL_len {f z : List Int} (hf : f.Nodup) (hz : z.Nodup) (h : ∀ x ∈ z, x ∈ f) : (lessL f z).length + z.length = f.length := by
  have e1 := filt_split (fun p => !decide (p ∈ z)) f
  have e2 : (f.filter fun x => !!decide (x ∈ z)).length = z.length := by
    have p : (f.filter fun x => !!decide (x ∈ z)).Perm z := (List.perm_ext_iff_of_nodup (hf.filter _) hz).mpr fun x => by
      rw [List.mem_filter]
      constructor
      · rintro ⟨_, h2⟩
        simpa using h2
      · intro hx
        exact ⟨h x hx, by simpa using hx⟩
    exact p.length_eq
  unfold lessL
  omega
/-- two rising ones of which the same is left are the same -/
theorem lessL_inj {n : Nat} {f g z : List Int} (hf : RisB n f) (hg : RisB n g) (h1 : ∀ x ∈ z, x ∈ f) (h2 : ∀ x ∈ z, x ∈ g) (e : lessL f z = lessL g z) : f = g := by
  have p : f.Perm g := (List.perm_ext_iff_of_nodup hf.nd hg.nd).mpr fun x => by
    by_cases hx : x ∈ z
    · exact ⟨fun _ => h2 x hx, fun _ => h1 x hx⟩
    · have e' : x ∈ lessL f z ↔ x ∈ lessL g z := by rw [e]
      rw [mem_lessL, mem_lessL] at e'
      constructor
      · intro h
        exact (e'.mp ⟨h, hx⟩).1
      · intro h
        exact (e'.mpr ⟨h, hx⟩).1
  exact List.Perm.eq_of_pairwise (fun a b _ _ h1 h2 => by omega) hf.1 hg.1 p
theorem nd_restL {n : Nat} {fss : List (List Int)} {z : List Int} (hr : ∀ f ∈ fss, RisB n f) (nd : fss.Nodup) : (restL fss z).Nodup := by
  unfold restL
  rw [List.nodup_iff_pairwise_ne, List.pairwise_map]
  refine List.Pairwise.imp_of_mem (fun {a b} ha hb hab e => ?_) (nd.filter _)
  obtain ⟨a1, a2⟩ := List.mem_filter.mp ha
  obtain ⟨b1, b2⟩ := List.mem_filter.mp hb
  exact hab (lessL_inj (hr a a1) (hr b b1) (hasAll_true.mp a2) (hasAll_true.mp b2) e)
theorem le_strict {l : List (List Int)} (h : l.Pairwise fun x y => le x y = true) (nd : l.Nodup) : l.Pairwise fun x y => lex x y = true :=
  List.Pairwise.imp₂ (fun a b h1 h2 => by
    cases e : lex a b with
    | true => rfl
    | false =>
      have e2 : lex b a = false := by simpa [le] using h1
      exact absurd (lex_tot a b e e2) h2) h nd
/-- a link is a stack -/
theorem StkOk.link {n k : Int} {fss : List (List Int)} {z : List Int} (S : StkOk n k fss) (hz : RisB n.toNat z) (hp : inSome z fss = true) : StkOk n (k - z.length) (linkL fss z) := by
  have F := S.faces
  have hn1 := S.n1
  have hk0 := S.k0
  have hk4 := S.k4
  have hkn := S.kn
  have hn8 := S.n8
  have nd : fss.Nodup := lex_nd S.srt
  obtain ⟨f0, hf0, hs0⟩ := inSome_true.mp hp
  have hl : ∀ g ∈ linkL fss z, g.length + z.length = k.toNat ∧ RisB n.toNat g := fun g hg => by
    obtain ⟨f, hf, hs, rfl⟩ := mem_linkL.mp hg
    have hr := F.ris f hf
    refine ⟨?_, hr.1.sublist (lessL_sub f z), fun i hi => hr.2 i ((lessL_sub f z).subset hi)⟩
    rw [← F.len f hf]
    exact lessL_len hr.nd hz.nd hs
  have h0 := hl _ (mem_linkL.mpr ⟨f0, hf0, hs0, rfl⟩)
  refine ⟨hn1, hn8, by omega, by omega, by omega, ?_, ?_, fun g hg => by have := (hl g hg).1; omega, fun g hg => (hl g hg).2.1, fun g hg i hi => by have := (hl g hg).2.2 i hi; omega, le_strict (sortL_pw _) ((sortL_perm _).nodup_iff.mpr (nd_restL F.ris nd))⟩
  · exact List.length_pos_of_mem (mem_linkL.mpr ⟨f0, hf0, hs0, rfl⟩)
  · unfold linkL restL
    rw [(sortL_perm _).length_eq, List.length_map]
    exact Nat.le_trans (List.length_filter_le _ _) S.l70
theorem linkL_le (fss : List (List Int)) (z : List Int) : (linkL fss z).length ≤ fss.length := by
  unfold linkL restL
  rw [(sortL_perm _).length_eq, List.length_map]
  exact List.length_filter_le _ _
section
variable {P : Program} {w : World} {K : PySem.W.Frag} {mg : Str → Option Value} {base : Heap} {Ps : Tbs} {H H' H0 : Hp} {k : Nat} {f c : Addr} {fd : FuncData}
def spLink (K : PySem.W.Frag) (Ps : Tbs) : Sp := fun vs H Q _ => ∃ (x y : V) (n kk : Int) (fss : List (List Int)) (z : List Int), vs = [x, y] ∧ AskP K Ps H x y n kk fss z ∧ inSome z fss = true ∧ ∀ v H', Ext Ps H H' → Stk K H' v n (kk - z.length) (linkL fss z) → Q v H'
theorem fmap_take {α β : Type} (p : α → Bool) (g : α → β) {l : List α} {i : Nat} {y : α} (h : l[i]? = some y) : ((l.take (i + 1)).filter p).map g = ((l.take i).filter p).map g ++ (if p y = true then [g y] else []) := by
  rw [filt_take p h, List.map_append]
  cases p y <;> rfl
end
end Lf

set_option maxHeartbeats 2000000
namespace Lf
open PySem PySem.Spec PyProof.Rows L2 GxR GxA SrT
/-! ### a stack's data -/
def stkD (n k : Int) (fss : List (List Int)) : PyData := .tuple [.int n, .int k, .tuple (fss.map tD)]
section
variable {K : PySem.W.Frag} {H : Hp}
theorem dp_stk {v : V} {n k : Int} {fss : List (List Int)} (h : Stk K H v n k fss) : Dp K H v (stkD n k fss) := by
  obtain ⟨a, fa, xs, rfl, h1, h2, h3⟩ := h
  exact .tup h1 (.cons (.int n) (.cons (.int k) (.cons (.tup h2 (dp_tups h3)) .nil)))
end
theorem wide_ints : ∀ ns : List Int, wideAll (iD ns) = true
  | [] => rfl
  | i :: ns => by
    show wideAll (.int i :: iD ns) = true
    rw [wideAll, wide_ints ns]
    rfl
theorem wide_tups {fss : List (List Int)} (h : ∀ f ∈ fss, f.length ≤ 1000) : wideAll (fss.map tD) = true := by
  induction fss with
  | nil => rfl
  | cons f fss ih =>
    rw [List.map_cons, wideAll, ih fun g hg => h g (List.mem_cons_of_mem _ hg), Bool.and_true]
    show wide (.tuple (iD f)) = true
    rw [wide, wide_ints, Bool.and_true]
    refine decide_eq_true ?_
    rw [List.length_map]
    exact h f List.mem_cons_self
theorem stkD_ok {n k : Int} {fss : List (List Int)} (h : fss.length ≤ 1000) (h4 : ∀ f ∈ fss, f.length ≤ 4) : (stkD n k fss).canLay0 = true ∧ wide (stkD n k fss) = true ∧ (stkD n k fss).depth ≤ 3 := by
  refine ⟨?_, ?_, ?_⟩
  · simp [stkD, PyData.canLay0, PyData.canLayAll0, lay_tups]
  · have z := wide_tups (fss := fss) fun f hf => by have := h4 f hf; omega
    unfold stkD
    rw [wide, wideAll, wideAll, wideAll, wideAll, wide, wide, wide, z, Bool.and_true, Bool.and_true]
    simp only [List.length_cons, List.length_nil, List.length_map, Bool.true_and, Bool.and_eq_true, decide_eq_true_eq]
    omega
  · have z := dep_tups fss
    simp only [stkD, PyData.depth, PyData.depthAll]
    omega
theorem StkOk.data {n k : Int} {fss : List (List Int)} (S : StkOk n k fss) : (stkD n k fss).canLay0 = true ∧ wide (stkD n k fss) = true ∧ (stkD n k fss).depth ≤ 3 := stkD_ok (by have := S.l70; omega) S.len4
/-- all faces of so many points -/
theorem all_stk {n k : Nat} (h1 : 1 ≤ n) (h8 : n ≤ 8) (hk : k ≤ n) (h4 : k ≤ 4) (hl : (allF n k).length ≤ 70) : StkOk n k (allF n k) := by
  refine ⟨by omega, by omega, by omega, by omega, by omega, allF_ne hk, hl, fun f hf => ?_, fun f hf => (mem_allF.mp hf).1.1, fun f hf i hi => (mem_allF.mp hf).1.2 i hi, le_strict (sortL_pw _) (nodup_allF n k)⟩
  have := (mem_allF.mp hf).2
  omega
theorem paired_drop {α γ : Type} {G : α → γ → Prop} : ∀ {m : Nat} {xs : List α} {ys : List γ}, Paired G xs ys → Paired G (xs.drop m) (ys.drop m)
  | 0, _, _, h => h
  | m + 1, _, _, .nil => .nil
  | m + 1, _, _, .cons _ t => paired_drop (m := m) t
/-- t[m:] -/
theorem cut_from {xs : List V} {m : Nat} (h : m ≤ xs.length) : cutV xs (some (m : Int)) none = xs.drop m := by
  unfold cutV
  rw [HT.sIx_nat, HT.sIx_none, Nat.min_eq_left h, List.take_of_length_le]
  rw [List.length_drop]
  omega
/-- the faces of k of m points from lo on, as they rise -/
def pickF : Nat → Nat → Nat → List (List Int)
  | _, _, 0 => [[]]
  | 0, _, _ + 1 => []
  | m + 1, lo, k + 1 => (pickF m (lo + 1) k).map (fun g => (lo : Int) :: g) ++ pickF m (lo + 1) (k + 1)
theorem pick83 : allF 8 3 = pickF 8 0 3 := by
  unfold allF
  exact (eq_sortL (by decide +kernel) (by decide +kernel)).symm
theorem pick84 : allF 8 4 = pickF 8 0 4 := by
  unfold allF
  exact (eq_sortL (by decide +kernel) (by decide +kernel)).symm
end Lf

set_option maxHeartbeats 1000000
/-! defs that refuse, lambdas handed to a def that catches -/
namespace Lf
open PySem PySem.Spec PyProof.Rows L2 GxR GxA SrT
section
variable {P : Program} {w : World} {K : PySem.W.Frag} {mg : Str → Option Value} {base : Heap}
/-- a def that may refuse -/
theorem Def.okX {x : Str} {st : Stmt} {f c : Addr} {fd : FuncData} {N ps : List Str} {k : Nat} {sp : Sp} (D : Def K mg x st ps f fd c) (S : FnScope N ps (defScope st)) (len : ∀ vs H Q E, sp vs H Q E → vs.length = ps.length)
    (hbody : ∀ (A : Around) (outer : List Env) (s : Shared) (H : Hp) (vs : List V) (Q : VK) (E : XK), Room k (A.deeper (envOfC x (defScope st) s.heap.objs.size f (.ref c))) → Takes (cxOf (L2.CX P w) P w K mg base N x (defScope st) f (.ref c) A outer s H E) (fun cls d _ H' => E cls d H') → sp vs H Q E →
      ∃ t, PSs (cxOf (L2.CX P w) P w K mg base N x (defScope st) f (.ref c) A outer s H E) (defBody st) t ∧ t { nx := fun _ H' => Q .non H', rt := Q } (start N vs) H) : FnOk P w K mg base (L2.CX P w) (k + 1) f fd ps sp := by
  obtain ⟨oc, od, kV, doc, pm, an, ct, osl, rfl, lk, hcd⟩ := D.F.ex
  exact fn_of lk hcd S len fun A outer s H vs Q E hr hsp => hbody A outer s H vs Q E hr (takes_of (E := E) rfl rfl rfl rfl) hsp
end
/-- a call of a def that may refuse; what it lets out is taken -/
theorem pclX {X : Cx} {x : Str} {st : Stmt} {ps : List Str} {f c : Addr} {fd : FuncData} {k : Nat} {sp : Sp} {e : Expr} {es : List Expr} {t : TA} {p pos : Pos} {E : XK} (D : Def X.K X.mg x st ps f fd c) (G : FnOk X.prog X.w X.K X.mg X.base (L2.CX X.prog X.w) k f fd ps sp) (hr : Room k X.A) (tk : Takes X fun cls d _ H => E cls d H) (ha : PA X (e :: es) t)
    (hg : Gl X x := by rfl) (hdb : (x == ("__debug__" : Str)) = false := by decide) (he : starEach (e :: es) X.env = (false, eval e X.env) :: starEach es X.env := by rfl) (hpl : (backTo pos (starEach es X.env)).any (·.1) = false := by rfl) :
    PE X (.Call (.Name x p) (e :: es) [] pos) (tCall sp [] E t) := pe_call G hr hg D.g D.F.kp D.b .nil (passes_call tk fun _ _ _ _ h => h) ha hdb he hpl
/-- the same, where it refuses nothing -/
theorem pclN {X : Cx} {x : Str} {st : Stmt} {ps : List Str} {f c : Addr} {fd : FuncData} {k : Nat} {sp : Sp} {e : Expr} {es : List Expr} {t : TA} {p pos : Pos} (D : Def X.K X.mg x st ps f fd c) (G : FnOk X.prog X.w X.K X.mg X.base (L2.CX X.prog X.w) k f fd ps sp) (hr : Room k X.A) (ha : PA X (e :: es) t)
    (hg : Gl X x := by rfl) (hdb : (x == ("__debug__" : Str)) = false := by decide) (he : starEach (e :: es) X.env = (false, eval e X.env) :: starEach es X.env := by rfl) (hpl : (backTo pos (starEach es X.env)).any (·.1) = false := by rfl) :
    PE X (.Call (.Name x p) (e :: es) [] pos) (tCall sp [] E0 t) := pe_call G hr hg D.g D.F.kp D.b .nil passL ha hdb he hpl
/-- a class of refusals -/
structure Ref (K : PySem.W.Frag) (mg : Str → Option Value) (x : Str) (C : Addr) : Prop where
  ex : ∃ (B newId initId : String) (bmB : List Value), ExcBaseFacts B newId initId bmB ∧ PySem.W.excIn K C bmB newId = true
  g : mg x = some (.ref C)
  kp : PySem.W.keepIn K (.ref C) = true
  sub : PySem.W.subIn K (.ref C) (.type "BaseException") = some true
  ty : PySem.W.typeIn K (.ref C) = some (.type "type")
/-- raise x('..') -/
theorem ps_refuse {X : Cx} {x m : Str} {C : Addr} {j : Nat} {p p2 pos pos' : Pos} {E : XK} (R : Ref X.K X.mg x C) (tk : Takes X fun cls d _ H => E cls d H) (hc : X.calm = true := by rfl) (hg : Gl X x := by rfl) (hdb : (x == ("__debug__" : Str)) = false := by decide) :
    PS X (.Raise (some (.Call (.Name x p) [.Constant (.str m) j p2] [] pos)) none pos') (fun _ _ H => E (.ref C) none H) := by
  obtain ⟨B, nI, iI, bmB, F, q⟩ := R.ex
  exact ps_raise hc tk (pmk_own F q R.g R.kp (raises_own R.sub R.ty) hg hdb)
/-- isinstance(e, c), e a pinned refusal -/
theorem call_isP {X : Cx} {a D : Addr} {oe : Obj} (C : ExcC X.K D) (hz : Zc (.ref D) none oe) (hf : ∃ vs, oe.data = .fields vs) (hp : (a, oe) ∈ X.pn) : CallR X (.builtin "isinstance") (rIsE X.K D a) := by
  intro pins s σ H xs us Q I r h
  obtain ⟨c, cv, b, rfl, hcv, e, q⟩ := h
  obtain ⟨u1, u2, rfl, r1, r2⟩ := vals2 r
  cases r1
  have ec := hcv _ r2
  subst ec
  have hget := (I.pin (a, oe) (List.mem_append_left _ hp)).1
  obtain ⟨vs, hv⟩ := hf
  obtain ⟨hz1, hz2⟩ := hz
  have J : PySem.W.InstAt s.heap a oe D none := by
    cases oe
    cases hz1
    cases hz2
    cases hv
    exact ⟨hget, rfl, rfl, trivial⟩
  refine PySem.W.kia_one (PySem.W.handS_kitx_exc C.hg C.hk C.hs C.hd C.ha C.hn C.ht C.hm) I.kIn J e (fun z => nomatch z) fun tk => ?_
  exact ⟨.bl b, H, I.kept (t' := tk) fun _ _ z => z, rfl, q⟩
/-- l.count(x), data -/
def rCountD (K : PySem.W.Frag) : V → List V → Hp → VK → Prop := fun x xs H Q => ∃ (a : Addr) (y : V) (d : PyData) (ds : List PyData), x = V.ref a ∧ xs = [y] ∧ Dp K H (V.ref a) (.list ds) ∧ Dp K H y d ∧ PyData.plainAll ds = true ∧ d.plain = true ∧ d.depth ≤ 60 ∧ Q (.int ((ds.countP fun z => PyData.eqv z d : Nat) : Int)) H
theorem mt_countD {X : Cx} (hu : X.A.units + 65 < cLine) : MtR X "list.count" (rCountD X.K) := by
  intro pins s σ H x xs v us Q I rx rxs h
  obtain ⟨a, y, d, ds, rfl, rfl, hl, hy, pl, pd, dd, q⟩ := h
  cases rx
  obtain ⟨u, rfl, ru⟩ := rxs.one
  obtain ⟨bs, r1⟩ := Dp.reads I d y u hy ru
  cases hl with
  | lst hs ha =>
    obtain ⟨its, rv, li, hlen⟩ := I.list hs
    obtain ⟨as, h4⟩ := Dp.readsAll I ds _ its ha rv
    refine PySem.SeqAt.count_list_data (as := as) (xs := ds) (vs := its.toArray) li.isList (by simpa using h4) r1 pl pd (by omega) ?_
    exact ⟨.int ((ds.countP fun z => PyData.eqv z d : Nat) : Int), H, I.tok _, ⟨_, rfl⟩, q⟩
/-! ### a lambda is made -/
theorem lam_mk {X : Cx} {pins : List (Addr × Obj)} {σ : L2.St} {H : Hp} {s : Shared} {Ps : Tbs} {c P : Addr} {params : Arguments} {body : Expr} {scope : Scope} {pos : Pos} {E : Value → Shared → Prop} {Q : Value → Shared → Prop} (I : Inv X pins σ H s) (TB : LamX.TabB X.base X.mg c P) (hcode : X.env.code = .ref c)
    (hm : (P, X.env.qual ++ "<lambda>") ∈ Ps.lam) (ht : Tb Ps H) (hdef : defaultsOf params X.env = ([], [])) (hfree : ∀ y ∈ scope.names, y.2 = .free → ∃ d, X.env.cells.lookup y.1 = some d)
    (h : ∀ (f d : Addr) (pm ctv : Value) (H1 : Hp) (s' : Shared), Inv X pins σ H1 s' → Ext Ps H H1 → s'.heap.get? f = some (PySem.W.kla_obj "<lambda>" (X.env.qual ++ "<lambda>") params body scope (cloFrom X.env.cells scope.names []) pm d ctv) →
      H1 f = none → f ∉ frs X.stack → H1 d = some (LamX.CodeO d (X.env.qual ++ "<lambda>")) → Q (.ref f) s') :
    wpAny (model X.prog X.w) X.A (eval (.Lambda params body scope pos) X.env) Q E s := by
  obtain ⟨ps, hP, tr, codes⟩ := ht.lam _ hm
  have bP := TB.bm.keeps I.bk
  have gP : s.heap.get? P = some { cls := .none, data := .fields ps } := I.hok P _ hP
  have out : ∀ f, s.heap.objs.size ≤ f → f ∉ frs X.stack := fun f hf z => (List.mem_cons.mp (I.stkSub _ z)).elim (fun e => by
    have lt := I.lt
    rw [← e] at lt
    exact absurd (Nat.lt_of_lt_of_le lt hf) (Nat.lt_irrefl _)) fun e => I.nofs hf e
  have cl := closure_ok hfree
  have gl := I.mod.glob.keeps I.bk
  have hd := TB.code.keeps I.bk
  refine PySem.W.kla_eval hdef ?_
  rcases hc : codeAmong pos ps.toList with _ | cv
  · refine PySem.W.kla_makeFunction (mg := X.mg) (P := P) (ps := ps) cl I.ok.glob gl hcode hd gP tr hc TB.gP bP fun d ctv h' tk hx hge hlt hrec htb => ?_
    obtain ⟨d2, od, vs, t, e2, hod, hdd, hv⟩ := hrec
    cases e2
    have hsz : s.heap.objs.size ≤ h'.objs.size := by omega
    have nD : H d = none := I.hok.fresh hge
    have nPd : P ≠ d := ne_of_none hP nD
    let ob := PySem.W.kla_obj "<lambda>" (X.env.qual ++ "<lambda>") params body scope (cloFrom X.env.cells scope.names []) ((X.mg "__name__").getD .none) d ctv
    have I1 := LamX.inv_table (t' := tk) (more := #[rawInt pos.line, rawInt pos.col, .ref d]) (h' := h'.push ob) I hP (fun b o hb e => Heap.get?_push_of_some _ (hx b o hb e)) (Heap.get?_push_of_some _ htb) hge ⟨od, vs, t, Heap.get?_push_of_some _ hod, hdd, hv⟩
    have at0 : ∀ b o, H b = some o → b ≠ P → (upd (upd H P (.tbl (ps ++ #[rawInt pos.line, rawInt pos.col, .ref d]))) d (LamX.CodeO d (X.env.qual ++ "<lambda>"))) b = some o := fun b o e n => by
      rw [upd_ne (ne_of_none e nD), upd_ne n]
      exact e
    have atP : (upd (upd H P (.tbl (ps ++ #[rawInt pos.line, rawInt pos.col, .ref d]))) d (LamX.CodeO d (X.env.qual ++ "<lambda>"))) P = some (.tbl (ps ++ #[rawInt pos.line, rawInt pos.col, .ref d])) := by
      rw [upd_ne nPd, upd_same]
    have noT : ∀ b o, H b = some o → (∀ q, o ≠ .tbl q) → b ≠ P := fun b o e n z => by
      rw [z, hP] at e
      cases e
      exact n _ rfl
    have eL : (ps ++ #[rawInt pos.line, rawInt pos.col, .ref d]).toList = ps.toList ++ [rawInt pos.line, rawInt pos.col, .ref d] := by simp
    have atD : (upd (upd H P (.tbl (ps ++ #[rawInt pos.line, rawInt pos.col, .ref d]))) d (LamX.CodeO d (X.env.qual ++ "<lambda>"))) d = some (LamX.CodeO d (X.env.qual ++ "<lambda>")) := upd_same
    refine h h'.objs.size d ((X.mg "__name__").getD .none) ctv _ _ I1 ⟨⟨fun Q hQ => ?_, fun p hp => ?_⟩, fun b o e n => at0 b o e (noT b o e n), fun b o e => ?_⟩ (Heap.get?_push_size _ rfl) ?_ (out _ hsz) atD
    · obtain ⟨qs, h1, h2⟩ := ht.gen Q hQ
      exact ⟨qs, at0 Q _ h1 (fun z => Ps.apart _ hm (show P ∈ Ps.gen from z ▸ hQ)), h2⟩
    · by_cases hb : p.1 = P
      · have e2 : p.2 = X.env.qual ++ "<lambda>" := Ps.one p hp _ hm hb
        rw [hb, e2]
        refine ⟨_, atP, by rw [eL]; exact PySem.TriplesOk_snoc _ _ _ _ tr, fun p' cv hcv => ?_⟩
        rw [eL] at hcv
        rcases LamX.among_app _ tr hcv with z | z
        · obtain ⟨c0, e3, e4⟩ := codes p' cv z
          exact ⟨c0, e3, at0 _ _ e4 (noT _ _ e4 LamX.codeO_ne)⟩
        · exact ⟨d, z, atD⟩
      · exact tabS_keep (ht.lam p hp) (fun qs e => at0 _ _ e hb) fun b e => at0 _ _ e (noT _ _ e LamX.codeO_ne)
    · by_cases hb : b = P
      · exact ⟨_, by rw [hb]; exact atP⟩
      · exact ⟨o, at0 b o e hb⟩
    · have n1 : h'.objs.size ≠ d := by omega
      have n2 : h'.objs.size ≠ P := fun z => by
        have lt := Heap.lt_size gP
        rw [← z] at lt
        exact absurd (Nat.lt_of_lt_of_le lt hsz) (Nat.lt_irrefl _)
      rw [upd_ne n1, upd_ne n2]
      exact I.hok.fresh hsz
  · obtain ⟨d, rfl, hco⟩ := codes pos cv hc
    refine PySem.W.kla_makeFunctionHit (mg := X.mg) (P := P) (ps := ps) cl I.ok.glob gl hcode hd gP tr hc bP fun ctv h' tk hx hsz => ?_
    exact h h'.objs.size d ((X.mg "__name__").getD .none) ctv H _ (I.kept fun b o e => Heap.get?_push_of_some _ (hx b o e)) (Ext.refl ht) (Heap.get?_push_size _ rfl) (I.hok.fresh hsz) (out _ hsz) hco
end Lf

set_option maxHeartbeats 1000000
namespace Lf
open PySem PySem.Spec PyProof.Rows L2 GxR GxA SrT
/-- the reading of x(lambda: ..) -/
def tLamX (Ps : Tbs) (TT : (XK → Hp → VK → Prop) → Hp → VK → Prop) (t : XK → TE) : TE := fun σ H Q => Tb Ps H ∧ ∀ H1, Ext Ps H H1 → TT (fun E H' Q' => t E σ H' Q') H1 Q
theorem pe_lamX {X : Cx} {Ps : Tbs} {TT : (XK → Hp → VK → Prop) → Hp → VK → Prop} {x a : Str} {st : Stmt} {g cg c P : Addr} {k : Nat} {fd : FuncData} {Ng : List Str} {params : Arguments} {body : Expr} {scope : Scope} {t : XK → TE} {p lpos pos : Pos}
    (D : Def X.K X.mg x st [a] g fd cg) (Sg : FnScope Ng [a] (defScope st)) (hG : LamX.GivesTo X Ng x (defScope st) g (.ref cg) (defBody st) a (X.env.qual ++ "<lambda>") TT) (TB : LamX.TabB X.base X.mg c P) (hmT : (P, X.env.qual ++ "<lambda>") ∈ Ps.lam) (hr : Room (k + 2) X.A)
    (L : LamX.LamS X.env.scope scope) (hbody : ∀ (A : Around) (outer : List Env) (s : Shared) (H : Hp) (E : XK) (f d : Addr), Room k (A.deeper (LamX.lamEnv X scope s.heap.objs.size f d)) → Takes (LamX.lamCx X A outer s H E scope f d) (fun cls d _ H' => E cls d H') → PE (LamX.lamCx X A outer s H E scope f d) body (t E))
    (hcode : X.env.code = .ref c := by rfl) (hNg : Ng[0]? = some a := by rfl) (hva : Vis (defScope st) a := by exact Or.inl rfl) (hg : Gl X x := by rfl) (hdef : defaultsOf params X.env = ([], []) := by rfl)
    (hbind : ∀ (q : Str) (cl : List (Str × Addr)) (pm cv ctv : Value), bindArgs (PySem.W.kla_fn "<lambda>" q params body scope cl pm cv ctv) ⟨[], []⟩ = pure [] := by intros; rfl) (hdb : (x == ("__debug__" : Str)) = false := by decide) (hd : (a == ("__debug__" : Str)) = false := by decide) (hcd : (a == ("__classdict__" : Str)) = false := by decide) :
    PE X (.Call (.Name x p) [.Lambda params body scope lpos] [] pos) (tLamX Ps TT t) := by
  obtain ⟨oc, od, kV, doc, pm, an, ct, osl, efd, lk, hcg⟩ := D.F.ex
  subst efd
  refine ⟨fun pins s σ H Q I h => ?_⟩
  refine wpAny_Call_Name_kw (ld_glob I hg D.g ?_ hdb)
  refine PySem.W.callWith_K (h₀ := X.base) I.ok.mod.kin D.F.kp ?_ (by rfl) (by rfl)
  show wpAny _ _ (spliced ((false, eval (.Lambda params body scope lpos) X.env) :: backTo pos (starEach [] X.env))) _ _ _
  refine Calls.spliced_cons (lam_mk I TB hcode hmT h.1 hdef (L.has I.ok) fun f d pm' ctv H1 s' I1 e1 hf hfn hfr hco => Calls.spliced_nil ⟨I1.kIn, ?_⟩)
  have run : codeAny (model X.prog X.w) X.A (.call (.ref g) ⟨[.ref f], []⟩) (CR C8.CX0 X.stack X.prog X.w H1 s' Q C8.E0) s' := by
    refine LamX.run_ofS (N := Ng) (ps := [a]) (us := [.ref f]) (vs := [.ref f]) lk hcg Sg hr I1.env0 (D.b s' [.ref f] I1.kIn rfl) (.cons rfl .nil) rfl fun hr' => ?_
    obtain ⟨t', q1, q2⟩ := hG f d s' H1 Q (fun E H' Q' => t E σ H' Q')
      (fun W pn xe E p1 p2 tk hW => LamX.pe_act (i := 0) I1 L hf hfn hfr (hbind _ _ _ _ _) tk hW hr' (fun A outer s H hr2 => hbody A outer s H E f d hr2 (takes_of (E := E) rfl rfl rfl rfl)) hNg hva hd hcd) hco (h.2 H1 e1)
    exact ⟨t', q1.nox, q2⟩
  refine wpAny_call (codeAny_mono run fun r s2 hq => ?_)
  match r, hq with
  | .ok (.ret u), hq => exact I1.after hq
  | .error e, hq => exact False.elim hq
/-- a def called where an exception is handled -/
theorem pe_hot {X : Cx} {x : Str} {st : Stmt} {N ps : List Str} {f c : Addr} {fd : FuncData} {k : Nat} {sp : Sp} {e : Expr} {es : List Expr} {t : TA} {p pos : Pos} (D : Def X.K X.mg x st ps f fd c) (S : FnScope N ps (defScope st)) {pn : Addr × Obj} (hp : pn ∈ X.pn) (hr : L2H.RoomH (k + 1) X.A) (ha : PA X (e :: es) t) (len : ∀ vs H Q E, sp vs H Q E → vs.length = ps.length)
    (hbody : ∀ (s : Shared) (H : Hp) (vs : List V) (Q : VK), L2H.RoomH k (X.A.deeper (envOfC x (defScope st) s.heap.objs.size f (.ref c))) → sp vs H Q E0 →
      ∃ u, PSs (L2H.cxH CX0 X.prog X.w X.K X.mg X.base N x (defScope st) f (.ref c) X.A X.stack s H E0 pn) (defBody st) u ∧ u { nx := fun _ H' => Q .non H', rt := Q } (start N vs) H)
    (hg : Gl X x := by rfl) (hdb : (x == ("__debug__" : Str)) = false := by decide) (he : starEach (e :: es) X.env = (false, eval e X.env) :: starEach es X.env := by rfl) (hpl : (backTo pos (starEach es X.env)).any (·.1) = false := by rfl) :
    PE X (.Call (.Name x p) (e :: es) [] pos) (tCall sp [] E0 t) := by
  obtain ⟨oc, od, kV, doc, pm, an, ct, osl, efd, lk, hcd⟩ := D.F.ex
  subst efd
  refine ⟨fun pins s0 σ H0 Q I0 h => ?_⟩
  refine wpAny_Call_Name_kw (ld_glob I0 hg D.g ?_ hdb)
  refine PySem.W.callWith_K (h₀ := X.base) I0.ok.mod.kin D.F.kp (thn (ha.run pos pins s0 σ H0 _ I0 h) fun us s hh => ?_) he hpl
  obtain ⟨vs, H, I, rv, q⟩ := hh
  rw [List.append_nil] at q
  have hl := len _ _ _ _ q
  have P1 := I.pin pn (List.mem_append_left _ hp)
  have pin : L2H.PinOk X.stack H s pn := ⟨P1.1, P1.2.1, fun hm => (List.mem_cons.mp (I.stkSub _ hm)).elim P1.2.2.1 P1.2.2.2.1, P1.2.2.2.2⟩
  have bd := D.b s us I.kIn (by rw [List.append_nil, ← rv.length]; exact hl)
  rw [List.append_nil] at bd
  refine ⟨I.kIn, wpAny_call (codeAny_mono (R := CR CX0 X.stack X.prog X.w H s Q E0) ?_ fun r s2 hq => ?_)⟩
  · have kinds : ∀ y ∈ ps.zip us, (defScope st).names.lookup y.1 = some .local ∨ ((defScope st).names.lookup y.1 = some .cell ∧ ((cellsFrom (s.heap.objs.size + 1) (defScope st).names []).lookup y.1).isSome = true) := fun y hy => by
      have hy1 : y.1 ∈ ps := (List.of_mem_zip (show (y.1, y.2) ∈ ps.zip us from hy)).1
      exact (S.par y.1 hy1).imp (fun z => z) fun z => ⟨z, PySem.W.cellsFrom_some _ _ _ (.inl z)⟩
    refine codeAny_call_function hr.depth (I.kIn _ _ lk) rfl S.co S.gen rfl (PySem.W.codeRec_of I.kIn hcd) (bd _ _ _ _ (wpAny_newFunctionEnv_cells S.kind kinds fun env he2 s1 x1 => ?_))
    subst he2
    refine ⟨I.nolimit.keeps x1.toInCall.keep, codeAny_func ?_⟩
    obtain ⟨u, hu, hq⟩ := hbody s H vs Q (hr.deeper _) q
    have J := L2H.inv_startH (CX := CX0) (E := E0) (qual := x) (f := f) (cd := .ref c) S pin I.env0 hl rv x1
    refine wpAny_mono (hu.run [] s1 (start N vs) H _ J hq) (fun fl s' hs => ?_) fun e2 s' hs => hs
    match fl, hs with
    | .ret u2, ⟨v, σ', H', J2, r2, q2⟩ => exact ⟨v, H', J2.os, J2.bare, J2.base, J2.hok, r2, q2⟩
    | .next, ⟨σ', H', J2, q2⟩ => exact ⟨V.non, H', J2.os, J2.bare, J2.base, J2.hok, rfl, q2⟩
    | .brk, ⟨_, _, _, q2⟩ => exact q2.elim
    | .cont, ⟨_, _, _, q2⟩ => exact q2.elim
  · match r, hq with
    | .ok (.ret u), hq => exact I.after hq
    | .error e2, hq => exact False.elim hq
/-- a block's reading is wanted only of as many slots as there are names -/
theorem pss_len {X : Cx} {sts : List Stmt} {t : TS} {n : Nat} (hn : X.N.length = n) (h : PSs X sts t) : PSs X sts (fun D σ H => σ.length = n → t D σ H) :=
  ⟨fun pins s σ H D I q => h.run pins s σ H D I (q (I.len.trans hn))⟩
end Lf

set_option maxHeartbeats 2000000
/-! things of any kind, and what the program makes of them -/
namespace Lf
open PySem PySem.Spec PyProof.Rows L2 GxR GxA SrT
mutual
/-- the thing x is the data d; its lists and dicts stand where F says -/
inductive ThF (K : PySem.W.Frag) (H : Hp) (F : Addr → Prop) : V → PyData → Prop
  | non : ThF K H F .non .none
  | bl (b : Bool) : ThF K H F (.bl b) (.bool b)
  | int (i : Int) : ThF K H F (.int i) (.int i)
  | str (z : Str) : ThF K H F (.str z) (.str z)
  | lst {a : Addr} {xs : List V} {ds : List PyData} : F a → SqL K H a xs → ThAllF K H F xs ds → ThF K H F (.ref a) (.list ds)
  | tup {a : Addr} {xs : List V} {ds : List PyData} : SqT K H a xs → ThAllF K H F xs ds → ThF K H F (.ref a) (.tuple ds)
  | dic {a : Addr} : F a → H a = some (.dK []) → ThF K H F (.ref a) (.dict [])
inductive ThAllF (K : PySem.W.Frag) (H : Hp) (F : Addr → Prop) : List V → List PyData → Prop
  | nil : ThAllF K H F [] []
  | cons {v : V} {vs : List V} {d : PyData} {ds : List PyData} : ThF K H F v d → ThAllF K H F vs ds → ThAllF K H F (v :: vs) (d :: ds)
end
abbrev Th (K : PySem.W.Frag) (H : Hp) : V → PyData → Prop := ThF K H fun _ => True
abbrev ThAll (K : PySem.W.Frag) (H : Hp) : List V → List PyData → Prop := ThAllF K H fun _ => True
section
variable {K : PySem.W.Frag} {Ps : Tbs} {H H' : Hp} {F F' : Addr → Prop}
mutual
theorem Ext.th (e : Ext Ps H H') : ∀ {d : PyData} {x : V}, ThF K H F x d → ThF K H' F x d
  | .none, _, h => by cases h; exact .non
  | .bool b, _, h => by cases h; exact .bl b
  | .int i, _, h => by cases h; exact .int i
  | .str y, _, h => by cases h; exact .str y
  | .list ds, _, h => by
    cases h with
    | lst hf hs ha => exact .lst hf (e.sqL hs) (Ext.thAll e ha)
  | .tuple ds, _, h => by
    cases h with
    | tup hs ha => exact .tup (e.sqT hs) (Ext.thAll e ha)
  | .dict _, _, h => by
    cases h with
    | dic hf hd => exact .dic hf (e.old _ _ hd fun q z => by cases z)
theorem Ext.thAll (e : Ext Ps H H') : ∀ {ds : List PyData} {xs : List V}, ThAllF K H F xs ds → ThAllF K H' F xs ds
  | [], _, h => by cases h; exact .nil
  | d :: ds, _, h => by
    cases h with
    | cons h1 h2 => exact .cons (Ext.th e h1) (Ext.thAll e h2)
end
mutual
theorem ThF.imp (e : ∀ a, F a → F' a) : ∀ {d : PyData} {x : V}, ThF K H F x d → ThF K H F' x d
  | .none, _, h => by cases h; exact .non
  | .bool b, _, h => by cases h; exact .bl b
  | .int i, _, h => by cases h; exact .int i
  | .str y, _, h => by cases h; exact .str y
  | .list ds, _, h => by
    cases h with
    | lst hf hs ha => exact .lst (e _ hf) hs (ThAllF.imp e ha)
  | .tuple ds, _, h => by
    cases h with
    | tup hs ha => exact .tup hs (ThAllF.imp e ha)
  | .dict _, _, h => by
    cases h with
    | dic hf hd => exact .dic (e _ hf) hd
theorem ThAllF.imp (e : ∀ a, F a → F' a) : ∀ {ds : List PyData} {xs : List V}, ThAllF K H F xs ds → ThAllF K H F' xs ds
  | [], _, h => by cases h; exact .nil
  | d :: ds, _, h => by
    cases h with
    | cons h1 h2 => exact .cons (ThF.imp e h1) (ThAllF.imp e h2)
end
theorem ThF.th {x : V} {d : PyData} (h : ThF K H F x d) : Th K H x d := h.imp fun _ _ => trivial
theorem ThAllF.th {xs : List V} {ds : List PyData} (h : ThAllF K H F xs ds) : ThAll K H xs ds := h.imp fun _ _ => trivial
mutual
/-- a list that is none of its own is written -/
theorem ThF.put {r : Addr} {l l' : List V} (hr : H r = some (.lst l)) (hn : ∀ a, F a → a ≠ r) : ∀ {d : PyData} {x : V}, ThF K H F x d → ThF K (upd H r (.lst l')) F x d
  | .none, _, h => by cases h; exact .non
  | .bool b, _, h => by cases h; exact .bl b
  | .int i, _, h => by cases h; exact .int i
  | .str y, _, h => by cases h; exact .str y
  | .list ds, _, h => by
    cases h with
    | lst hf hs ha =>
      refine .lst hf ?_ (ThAllF.put hr hn ha)
      rcases hs with (h | ⟨o, h⟩) | h
      · exact .inl (.inl (by rw [upd_ne (hn _ hf)]; exact h))
      · exact .inl (.inr ⟨o, by rw [upd_ne (hn _ hf)]; exact h⟩)
      · exact .inr h
  | .tuple ds, _, h => by
    cases h with
    | tup hs ha =>
      refine .tup ?_ (ThAllF.put hr hn ha)
      rcases hs with (h | ⟨o, h⟩) | h
      · exact .inl (.inl (by rw [upd_ne (ne_of h hr (by intro z; cases z))]; exact h))
      · exact .inl (.inr ⟨o, by rw [upd_ne (ne_of h hr (by intro z; cases z))]; exact h⟩)
      · exact .inr h
  | .dict _, _, h => by
    cases h with
    | dic hf hd => exact .dic hf (by rw [upd_ne (hn _ hf)]; exact hd)
theorem ThAllF.put {r : Addr} {l l' : List V} (hr : H r = some (.lst l)) (hn : ∀ a, F a → a ≠ r) : ∀ {ds : List PyData} {xs : List V}, ThAllF K H F xs ds → ThAllF K (upd H r (.lst l')) F xs ds
  | [], _, h => by cases h; exact .nil
  | d :: ds, _, h => by
    cases h with
    | cons h1 h2 => exact .cons (ThF.put hr hn h1) (ThAllF.put hr hn h2)
end
theorem thAll_len : ∀ {ds : List PyData} {xs : List V}, ThAllF K H F xs ds → xs.length = ds.length
  | [], _, h => by cases h; rfl
  | d :: ds, _, h => by
    cases h with
    | cons h1 h2 => rw [List.length_cons, List.length_cons, thAll_len h2]
theorem thAll_get : ∀ {ds : List PyData} {xs : List V} {i : Nat} {x : V}, ThAllF K H F xs ds → xs[i]? = some x → ∃ d, ds[i]? = some d ∧ ThF K H F x d
  | [], _, i, x, h, e => by
    cases h
    simp at e
  | d :: ds, _, 0, x, h, e => by
    cases h with
    | cons h1 h2 =>
      cases e
      exact ⟨d, rfl, h1⟩
  | d :: ds, _, i + 1, x, h, e => by
    cases h with
    | cons h1 h2 =>
      obtain ⟨d', q1, q2⟩ := thAll_get (i := i) (x := x) h2 (by simpa using e)
      exact ⟨d', by simpa using q1, q2⟩
theorem thAll_app : ∀ {ds es : List PyData} {xs ys : List V}, ThAllF K H F xs ds → ThAllF K H F ys es → ThAllF K H F (xs ++ ys) (ds ++ es)
  | [], _, _, _, h, h2 => by cases h; exact h2
  | d :: ds, _, _, _, h, h2 => by
    cases h with
    | cons h1 ht => exact .cons h1 (thAll_app ht h2)
theorem th_ints : ∀ ns : List Int, ThAllF K H F (ns.map V.int) (iD ns)
  | [] => .nil
  | n :: ns => .cons (.int n) (th_ints ns)
theorem th_tup {x : V} {ns : List Int} (h : TupI K H x ns) : ThF K H F x (tD ns) := by
  obtain ⟨t, rfl, hs⟩ := h
  exact .tup hs (th_ints ns)
theorem th_tups : ∀ {xs : List V} {fs : List (List Int)}, Paired (TupI K H) xs fs → ThAllF K H F xs (fs.map tD)
  | _, _, .nil => .nil
  | _, _, .cons h t => .cons (th_tup h) (th_tups t)
theorem th_stk {v : V} {n k : Int} {fss : List (List Int)} (h : Stk K H v n k fss) : ThF K H F v (stkD n k fss) := by
  obtain ⟨a, fa, xs, rfl, h1, h2, h3⟩ := h
  exact .tup h1 (.cons (.int n) (.cons (.int k) (.cons (.tup h2 (th_tups h3)) .nil)))
theorem th_ty {x : V} {d : PyData} (h : ThF K H F x d) : TyX K H x (.type (tyN d)) := by
  cases h with
  | non => exact .base .non
  | bl b => exact .base (.bl b)
  | int i => exact .base (.int i)
  | str y => exact .base (.str y)
  | lst hf hs ha => exact ty_lst hs
  | tup hs ha => exact ty_tup hs
  | dic hf hd => exact .base (.dK hd)
/-- a thing that is a tuple of ints -/
theorem th_asInts : ∀ {ds : List PyData} {xs : List V}, ThAllF K H F xs ds → (∀ d ∈ ds, ∃ i, d = .int i) → ∃ ns : List Int, xs = ns.map V.int ∧ ds = iD ns
  | [], _, h, _ => by cases h; exact ⟨[], rfl, rfl⟩
  | d :: ds, _, h, hd => by
    cases h with
    | cons h1 h2 =>
      obtain ⟨i, e⟩ := hd d List.mem_cons_self
      subst e
      cases h1
      obtain ⟨ns, e1, e2⟩ := th_asInts h2 fun d hd' => hd d (List.mem_cons_of_mem _ hd')
      exact ⟨i :: ns, by rw [e1]; rfl, by rw [e2]; rfl⟩
theorem th_asTups : ∀ {ds : List PyData} {xs : List V}, ThAllF K H F xs ds → (∀ d ∈ ds, ∃ ns, d = tD ns) → ∃ fss : List (List Int), Paired (TupI K H) xs fss ∧ ds = fss.map tD
  | [], _, h, _ => by cases h; exact ⟨[], .nil, rfl⟩
  | d :: ds, _, h, hd => by
    cases h with
    | cons h1 h2 =>
      obtain ⟨ns, e⟩ := hd d List.mem_cons_self
      subst e
      obtain ⟨fss, e1, e2⟩ := th_asTups h2 fun d hd' => hd d (List.mem_cons_of_mem _ hd')
      cases h1 with
      | tup hs ha =>
        obtain ⟨ms, e3, e4⟩ := th_asInts ha fun d hd => by
          obtain ⟨i, _, rfl⟩ := List.mem_map.mp hd
          exact ⟨i, rfl⟩
        have e5 : ns = ms := List.map_inj_right (fun a b h => by cases h; rfl) |>.mp (show ns.map PyData.int = ms.map PyData.int from e4)
        subst e5
        rw [e3] at hs
        exact ⟨ns :: fss, .cons ⟨_, rfl, hs⟩ e1, by rw [e2]; rfl⟩
end
/-! ### what is asked of data -/
def intIn (d : PyData) (lo hi : Int) : Bool := match d with
  | .int i => decide (lo ≤ i) && decide (i ≤ hi)
  | _ => false
def belowD (d : PyData) (m : Int) : Bool := match d with
  | .tuple ds => ds.all fun e => intIn e 0 (m - 1)
  | _ => false
def intsOf : PyData → List Int
  | .tuple ds => ds.map fun e => match e with
    | .int i => i
    | _ => 0
  | _ => []
theorem intsOf_tD (ns : List Int) : intsOf (tD ns) = ns := by
  show (ns.map PyData.int).map _ = ns
  rw [List.map_map]
  exact List.map_id' ns
def adjB {α : Type} (lt : α → α → Bool) : List α → Bool
  | x :: y :: r => lt x y && adjB lt (y :: r)
  | _ => true
theorem adjB_iff {α : Type} {lt : α → α → Bool} : ∀ {l : List α}, adjB lt l = true ↔ ∀ (i : Nat) (h : i + 1 < l.length), lt l[i] l[i + 1] = true
  | [] => by simp [adjB]
  | [x] => by simp [adjB]
  | x :: y :: r => by
    rw [adjB, Bool.and_eq_true, adjB_iff]
    constructor
    · rintro ⟨h1, h2⟩ i h
      cases i with
      | zero => exact h1
      | succ i => exact h2 i (by simpa using h)
    · intro h
      exact ⟨h 0 (by simp), fun i hi => h (i + 1) (by simpa using hi)⟩
theorem adjB_pw {α : Type} {lt : α → α → Bool} (tr : ∀ a b c, lt a b = true → lt b c = true → lt a c = true) : ∀ {l : List α}, adjB lt l = true ↔ l.Pairwise fun x y => lt x y = true
  | [] => by simp [adjB]
  | [x] => by simp [adjB]
  | x :: y :: r => by
    rw [adjB, Bool.and_eq_true, adjB_pw tr]
    constructor
    · rintro ⟨h1, h2⟩
      refine List.pairwise_cons.mpr ⟨fun a ha => ?_, h2⟩
      rcases List.mem_cons.mp ha with rfl | ha
      · exact h1
      · exact tr _ _ _ h1 ((List.pairwise_cons.mp h2).1 a ha)
    · intro h
      obtain ⟨h1, h2⟩ := List.pairwise_cons.mp h
      exact ⟨h1 y List.mem_cons_self, h2⟩
def ltI (a b : Int) : Bool := decide (a < b)
theorem adjI_pw {ns : List Int} : adjB ltI ns = true ↔ ns.Pairwise (· < ·) := by
  rw [adjB_pw (lt := ltI) fun a b c h1 h2 => decide_eq_true (by have := of_decide_eq_true h1; have := of_decide_eq_true h2; omega)]
  unfold ltI
  simp only [decide_eq_true_eq]
def risD (d : PyData) (m : Int) : Bool := belowD d m && adjB ltI (intsOf d)
def lenD : PyData → Nat
  | .tuple ds => ds.length
  | _ => 0
def facesD (n k : Int) (d : PyData) : Bool := match d with
  | .tuple ds => decide (1 ≤ ds.length ∧ ds.length ≤ 70) && (ds.all fun f => risD f n && decide ((lenD f : Int) = k)) && adjB lex (ds.map intsOf)
  | _ => false
def isStackD (d : PyData) : Bool := match d with
  | .tuple [.int n, .int k, f] => decide (1 ≤ n ∧ n ≤ 8) && decide (0 ≤ k ∧ k ≤ n ∧ k ≤ 4) && facesD n k f
  | _ => false
/-- below: a tuple of ints -/
theorem below_ints {d : PyData} {m : Int} (h : belowD d m = true) : ∃ ns, d = tD ns ∧ ∀ i ∈ ns, 0 ≤ i ∧ i < m := by
  cases d with
  | tuple ds =>
    have h' : ∀ e ∈ ds, intIn e 0 (m - 1) = true := List.all_eq_true.mp h
    have key : ∀ ds : List PyData, (∀ e ∈ ds, intIn e 0 (m - 1) = true) → ∃ ns : List Int, ds = iD ns ∧ ∀ i ∈ ns, 0 ≤ i ∧ i < m := by
      intro ds
      induction ds with
      | nil => intro _; exact ⟨[], rfl, fun i hi => by cases hi⟩
      | cons e ds ih =>
        intro h
        obtain ⟨ns, e1, e2⟩ := ih fun e he => h e (List.mem_cons_of_mem _ he)
        have h0 := h e List.mem_cons_self
        cases e with
        | int i =>
          have h0' : (decide (0 ≤ i) && decide (i ≤ m - 1)) = true := h0
          rw [Bool.and_eq_true, decide_eq_true_eq, decide_eq_true_eq] at h0'
          refine ⟨i :: ns, by rw [e1]; rfl, fun j hj => ?_⟩
          rcases List.mem_cons.mp hj with rfl | hj
          · omega
          · exact e2 j hj
        | _ => cases h0
    obtain ⟨ns, e1, e2⟩ := key ds h'
    exact ⟨ns, by subst e1; rfl, e2⟩
  | _ => cases h
theorem below_tD {ns : List Int} {m : Int} (h : ∀ i ∈ ns, 0 ≤ i ∧ i < m) : belowD (tD ns) m = true := by
  show (ns.map PyData.int).all _ = true
  rw [List.all_map, List.all_eq_true]
  intro i hi
  have := h i hi
  show (decide (0 ≤ i) && decide (i ≤ m - 1)) = true
  rw [decide_eq_true this.1, decide_eq_true (by omega)]
  rfl
theorem risD_iff {d : PyData} {m : Int} : risD d m = true ↔ ∃ ns, d = tD ns ∧ (∀ i ∈ ns, 0 ≤ i ∧ i < m) ∧ ns.Pairwise (· < ·) := by
  unfold risD
  rw [Bool.and_eq_true]
  constructor
  · rintro ⟨h1, h2⟩
    obtain ⟨ns, rfl, h3⟩ := below_ints h1
    rw [intsOf_tD, adjI_pw] at h2
    exact ⟨ns, rfl, h3, h2⟩
  · rintro ⟨ns, rfl, h1, h2⟩
    exact ⟨below_tD h1, by rw [intsOf_tD, adjI_pw]; exact h2⟩
end Lf

set_option maxHeartbeats 2000000
namespace Lf
open PySem PySem.Spec PyProof.Rows L2 GxR GxA SrT
section
variable {P : Program} {w : World} {K : PySem.W.Frag} {mg : Str → Option Value} {base : Heap} {Ps : Tbs} {H H' H0 : Hp} {k : Nat} {f c : Addr} {fd : FuncData}
/-! ### is_within of any thing -/
def spWithinX (K : PySem.W.Frag) : Sp := fun vs H Q _ => ∃ (x : V) (d : PyData) (lo hi : Int), vs = [x, .int lo, .int hi] ∧ Th K H x d ∧ Q (.bl (intIn d lo hi)) H
theorem ok_withinX (D : Def K mg "is_within" sWithin ["thing", "least", "most"] f fd c) (mi : mg "isinstance" = none) (mn : mg "int" = none) (mb : mg "bool" = none) : FnOk P w K mg base CX0 (k + 1) f fd ["thing", "least", "most"] (spWithinX K) := by
  refine D.ok scWithin (fun vs H Q E h => ?_) (fun A outer s H vs Q E hr h => ?_)
  · obtain ⟨x, d, lo, hi, rfl, _⟩ := h
    rfl
  · obtain ⟨x, d, lo, hi, rfl, hx, q⟩ := h
    refine ⟨_, pss_cons (ps_if (PW.pt (pw_or (pt_not (pt_val (pe_callB call_isi (by rfl) mi (by decide +kernel) (pa_cons (pv 0) (pa_cons (pe_bltn (v := .ty "int") (by rfl) mn (by decide +kernel) rfl) pa_nil)))))
        (pw_or1 (pt_val (pe_callB call_isi (by rfl) mi (by decide +kernel) (pa_cons (pv 0) (pa_cons (pe_bltn (v := .ty "bool") (by rfl) mb (by decide +kernel) rfl) pa_nil))))))) (pss_one (ps_ret pe_bl)) pss_nil)
      (pss_one (ps_ret (pe_chain op_le op_le (pv 1) (pv 0) (pv 2)))), ?_⟩
    have ty := th_ty hx
    cases d with
    | int i =>
      cases hx
      refine ⟨.int i, rfl, .int i, .ty "int", .type "int", .type "int", true, rfl, .ty _, ty, kit_ty (by decide +kernel), true, rfl, iteF ?_⟩
      refine ⟨.int i, rfl, .int i, .ty "bool", .type "int", .type "bool", false, rfl, .ty _, ty, kit_ty (by decide +kernel), false, rfl, iteF ?_⟩
      refine ⟨.int lo, rfl, .int i, rfl, lo, i, rfl, rfl, _, rfl, ?_⟩
      have q' : Q (.bl (decide (lo ≤ i) && decide (i ≤ hi))) H := q
      refine ite2 (fun hc => ?_) (fun hc => ?_)
      · have hc' : decide (lo ≤ i) = true := hc
        rw [hc', Bool.true_and] at q'
        exact ⟨.int hi, rfl, i, hi, rfl, rfl, q'⟩
      · have hc' : decide (lo ≤ i) = false := by
          cases e : decide (lo ≤ i) with
          | false => rfl
          | true => exact absurd e hc
        rw [hc', Bool.false_and] at q'
        exact q'
    | bool b =>
      cases hx
      refine ⟨.bl b, rfl, .bl b, .ty "int", .type "bool", .type "int", true, rfl, .ty _, ty, kit_ty (by decide +kernel), true, rfl, iteF ?_⟩
      exact ⟨.bl b, rfl, .bl b, .ty "bool", .type "bool", .type "bool", true, rfl, .ty _, ty, kit_ty (by decide +kernel), true, rfl, iteT q⟩
    | none => exact ⟨x, rfl, x, .ty "int", .type "NoneType", .type "int", false, rfl, .ty _, ty, kit_ty (by decide +kernel), false, rfl, iteT q⟩
    | str z => exact ⟨x, rfl, x, .ty "int", .type "str", .type "int", false, rfl, .ty _, ty, kit_ty (by decide +kernel), false, rfl, iteT q⟩
    | list ds => exact ⟨x, rfl, x, .ty "int", .type "list", .type "int", false, rfl, .ty _, ty, kit_ty (by decide +kernel), false, rfl, iteT q⟩
    | tuple ds => exact ⟨x, rfl, x, .ty "int", .type "tuple", .type "int", false, rfl, .ty _, ty, kit_ty (by decide +kernel), false, rfl, iteT q⟩
    | dict kvs => exact ⟨x, rfl, x, .ty "int", .type "dict", .type "int", false, rfl, .ty _, ty, kit_ty (by decide +kernel), false, rfl, iteT q⟩
/-- whether a thing is a tuple -/
def isTup : PyData → Bool
  | .tuple _ => true
  | _ => false
theorem tup_kit {x : V} {d : PyData} (hx : Th K H x d) : ∃ t : String, TyX K H x (.type t) ∧ kitB t "tuple" = some (isTup d) := by
  refine ⟨tyN d, th_ty hx, ?_⟩
  cases d with
  | none => exact (show kitB "NoneType" "tuple" = some false by decide +kernel)
  | bool b => exact (show kitB "bool" "tuple" = some false by decide +kernel)
  | int i => exact (show kitB "int" "tuple" = some false by decide +kernel)
  | str z => exact (show kitB "str" "tuple" = some false by decide +kernel)
  | list ds => exact (show kitB "list" "tuple" = some false by decide +kernel)
  | tuple ds => exact (show kitB "tuple" "tuple" = some true by decide +kernel)
  | dict kvs => exact (show kitB "dict" "tuple" = some false by decide +kernel)
/-! ### all_below of any thing -/
def spBelowX (K : PySem.W.Frag) (Ps : Tbs) : Sp := fun vs H Q _ => ∃ (x : V) (d : PyData) (m : Int), vs = [x, .int m] ∧ Th K H x d ∧ Tb Ps H ∧ ∀ H', Ext Ps H H' → Q (.bl (belowD d m)) H'
theorem ok_belowX {fW cW PT : Addr} {fdW : FuncData} (D : Def K mg "all_below" sBelow ["thing", "many"] f fd c) (DW : Def K mg "is_within" sWithin ["thing", "least", "most"] fW fdW cW) (TB : TabB base mg c PT) (hP : PT ∈ Ps)
    (mi : mg "isinstance" = none) (mn : mg "int" = none) (mb : mg "bool" = none) (mt : mg "tuple" = none) (ma : mg "all" = none) : FnOk P w K mg base CX0 (k + 3) f fd ["thing", "many"] (spBelowX K Ps) := by
  have GW : FnOk P w K mg base CX0 (k + 1) fW fdW ["thing", "least", "most"] (spWithinX K) := ok_withinX DW mi mn mb
  refine D.ok (k := k + 2) scBelow (fun vs H Q E h => ?_) (fun A outer s H vs Q E hr h => ?_)
  · obtain ⟨x, d, m, rfl, _⟩ := h
    rfl
  · obtain ⟨x, d, m, rfl, hx, ht, q⟩ := h
    refine ⟨_, pss_one (ps_ret (pe_and (pe_callB call_isi (by rfl) mi (by decide +kernel) (pa_cons (pv 0) (pa_cons (pe_bltn (v := .ty "tuple") (by rfl) mt (by decide +kernel) rfl) pa_nil)))
      (pe_one (pe_allG (k := k + 1) (caps := [1]) (xs := ["many"]) hr (by rfl) ma TB rfl (genS rfl rfl (by decide +kernel) rfl rfl) ⟨⟨rfl, .inl rfl, rfl⟩, trivial⟩ (by decide +kernel) (pi_tup (pv 0))
        (fun _ _ _ _ _ _ _ hr' => pcl DW GW hr' (pa_cons (pv 0) (pa_cons pe_int (pa_cons (pe_op op_sub (pv 1) pe_int) pa_nil)))) (fun _ => rfl))))), ?_⟩
    obtain ⟨t, ty, hk⟩ := tup_kit hx
    refine ⟨x, rfl, x, .ty "tuple", .type t, .type "tuple", isTup d, rfl, .ty _, ty, kit_ty hk, isTup d, rfl, ?_⟩
    cases d with
    | tuple ds =>
      cases hx with
      | @tup a xs _ hS ha =>
      refine iteT ⟨.ref a, rfl, a, rfl, ⟨_, hS⟩, ht.gen PT hP, fun H2 hT2 => ?_⟩
      have e2 := Ext.of_tabbed ht hP hT2
      refine gW_tup (xs := xs) (fun i H3 => H3 = H2 ∧ (ds.take i).all (fun e => intIn e 0 (m - 1)) = true) ⟨rfl, rfl⟩ (fun i H3 e => by rw [e.1]; exact e2.sqT hS) (fun H3 e => ?_) fun i H3 y hy e => ?_
      · obtain ⟨rfl, h2⟩ := e
        rw [thAll_len ha, List.take_length] at h2
        have z := q _ e2
        rw [show belowD (.tuple ds) m = true from h2] at z
        exact z
      · obtain ⟨rfl, h2⟩ := e
        obtain ⟨d', hd, hy'⟩ := thAll_get ha hy
        refine ⟨y, rfl, .int m, rfl, m, 1, rfl, rfl, y, d', 0, m - 1, rfl, e2.th hy', _, rfl, fun hb => ⟨rfl, ?_⟩, fun hb => ?_⟩
        · rw [List.take_add_one, hd, List.all_append, h2]
          simpa using hb
        · have z := q _ e2
          have hb' : intIn d' 0 (m - 1) = false := by simpa using hb
          have e5 : belowD (.tuple ds) m = false := by
            show ds.all _ = false
            rw [List.all_eq_false]
            exact ⟨d', List.mem_of_getElem? hd, by rw [hb']; simp⟩
          rw [e5] at z
          rw [hb']
          exact z
    | none => exact iteF (q _ (Ext.refl ht))
    | bool b => exact iteF (q _ (Ext.refl ht))
    | int i => exact iteF (q _ (Ext.refl ht))
    | str z => exact iteF (q _ (Ext.refl ht))
    | list ds => exact iteF (q _ (Ext.refl ht))
    | dict kvs => exact iteF (q _ (Ext.refl ht))
/-! ### rises, either way -/
/-- the things of xs, and whether each is less than the next -/
def AdjV (K : PySem.W.Frag) (H : Hp) (xs : List V) (b : Bool) : Prop := (∃ ns : List Int, xs = ns.map V.int ∧ b = adjB ltI ns) ∨ ∃ fss, Paired (TupI K H) xs fss ∧ b = adjB lex fss
def spRisesX (K : PySem.W.Frag) (Ps : Tbs) : Sp := fun vs H Q _ => ∃ (a : Addr) (xs : List V) (b : Bool), vs = [.ref a] ∧ SqT K H a xs ∧ AdjV K H xs b ∧ xs.length ≤ 1000 ∧ Tb Ps H ∧ ∀ H', Ext Ps H H' → Q (.bl b) H'
theorem ok_risesX {PT : Addr} (D : Def K mg "rises" sRises ["things"] f fd c) (TB : TabB base mg c PT) (hP : PT ∈ Ps) (ma : mg "all" = none) (mr : mg "range" = none) (ml : mg "len" = none) :
    FnOk P w K mg base CX0 (k + 2) f fd ["things"] (spRisesX K Ps) := by
  refine D.ok (k := k + 1) scRises (fun vs H Q E h => ?_) (fun A outer s H vs Q E hr h => ?_)
  · obtain ⟨a, xs, b, rfl, _⟩ := h
    rfl
  · obtain ⟨a, xs, b, rfl, hS, hR, hl, ht, q⟩ := h
    refine ⟨_, pss_one (ps_ret (pe_allG (k := k) (caps := [0]) (xs := ["things"]) hr (by rfl) ma TB rfl (genS rfl rfl (by decide +kernel) rfl rfl) ⟨⟨rfl, .inl rfl, rfl⟩, trivial⟩ (by decide +kernel)
      (pi_range1 (by rfl) mr (pa_cons (pe_op op_sub (pe_callB call_len_seq (by rfl) ml PySem.boot_len (pa_cons (pv 0) pa_nil)) pe_int) pa_nil))
        (fun _ _ _ _ _ _ _ hr' => pe_cmpR (OpR.or op_lt (show OpR _ _ (rLtT K) from op_ltT hr'.units0)) (pe_ix (show IxR _ (rIxT K) from ix_tup) (pv 1) (pv 0) (fun _ _ => rfl)) (pe_ix (show IxR _ (rIxT K) from ix_tup) (pv 1) (pe_op op_add (pv 0) pe_int) (fun _ _ => rfl)) (nomark _)) (fun _ => rfl))), ?_⟩
    refine ⟨.ref a, rfl, a, xs, rfl, .inr hS, (xs.length : Int), 1, rfl, rfl, (xs.length : Int) - 1, rfl, by omega, by omega, ht.gen PT hP, fun H2 hT2 => ?_⟩
    have e2 := Ext.of_tabbed ht hP hT2
    rcases hR with ⟨ns, rfl, rfl⟩ | ⟨fss, hp, rfl⟩
    · refine gW_rng (fun i H3 => H3 = H2 ∧ ∀ (j : Nat) (h : j + 1 < ns.length), j < i → ltI ns[j] ns[j + 1] = true) ⟨rfl, fun j _ hj => by omega⟩ (fun H3 e => ?_) fun i H3 hi e => ?_
      · obtain ⟨rfl, e⟩ := e
        have z := q _ e2
        rw [adjB_iff.mpr fun j hj => e j hj (by rw [List.length_map]; omega)] at z
        exact z
      · obtain ⟨rfl, e⟩ := e
        rw [List.length_map] at hi
        have h1 : i < ns.length := by omega
        have h2 : i + 1 < ns.length := by omega
        refine ⟨.ref a, rfl, .int (0 + i), rfl, a, _, 0 + i, .int ns[i], rfl, rfl, e2.sqT hS, ?_, .ref a, rfl, .int (0 + i), rfl, 0 + i, 1, rfl, rfl, a, _, 0 + i + 1, .int ns[i + 1], rfl, rfl, e2.sqT hS, ?_, ?_⟩
        · rw [Int.zero_add]
          exact atI_nat (by rw [List.getElem?_map, List.getElem?_eq_getElem h1]; rfl)
        · have : (0 + (i : Int) + 1) = ((i + 1 : Nat) : Int) := by omega
          rw [this]
          exact atI_nat (by rw [List.getElem?_map, List.getElem?_eq_getElem h2]; rfl)
        · refine .inl ⟨ns[i], ns[i + 1], rfl, rfl, ltI ns[i] ns[i + 1], rfl, fun hb => ⟨rfl, fun j hj hji => ?_⟩, fun hb => ?_⟩
          · by_cases eij : j = i
            · subst eij
              exact hb
            · exact e j hj (by omega)
          · have hb' : ltI ns[i] ns[i + 1] = false := by simpa using hb
            have z := q _ e2
            have e5 : adjB ltI ns = false := by
              cases e6 : adjB ltI ns with
              | false => rfl
              | true =>
                rw [adjB_iff.mp e6 i h2] at hb'
                cases hb'
            rw [e5] at z
            rw [hb']
            exact z
    · have hlen := Paired.length hp
      refine gW_rng (fun i H3 => H3 = H2 ∧ ∀ (j : Nat) (h : j + 1 < fss.length), j < i → lex fss[j] fss[j + 1] = true) ⟨rfl, fun j _ hj => by omega⟩ (fun H3 e => ?_) fun i H3 hi e => ?_
      · obtain ⟨rfl, e⟩ := e
        have z := q _ e2
        rw [adjB_iff.mpr fun j hj => e j hj (by omega)] at z
        exact z
      · obtain ⟨rfl, e⟩ := e
        have h1 : i < xs.length := by omega
        have h2 : i + 1 < xs.length := by omega
        refine ⟨.ref a, rfl, .int (0 + i), rfl, a, xs, 0 + i, xs[i], rfl, rfl, e2.sqT hS, ?_, .ref a, rfl, .int (0 + i), rfl, 0 + i, 1, rfl, rfl, a, xs, 0 + i + 1, xs[i + 1], rfl, rfl, e2.sqT hS, ?_, ?_⟩
        · rw [Int.zero_add]
          exact atI_nat (List.getElem?_eq_getElem h1)
        · have : (0 + (i : Int) + 1) = ((i + 1 : Nat) : Int) := by omega
          rw [this]
          exact atI_nat (List.getElem?_eq_getElem h2)
        · obtain ⟨f1, k1, ⟨t1, z1, s1⟩⟩ := paired_get hp (List.getElem?_eq_getElem h1)
          obtain ⟨f2, k2, ⟨t2, z2, s2⟩⟩ := paired_get hp (List.getElem?_eq_getElem h2)
          obtain ⟨g1, k1⟩ := List.getElem?_eq_some_iff.mp k1
          obtain ⟨g2, k2⟩ := List.getElem?_eq_some_iff.mp k2
          refine .inr ⟨t1, t2, f1, f2, z1, z2, e2.sqT s1, e2.sqT s2, lex f1 f2, rfl, fun hb => ⟨rfl, fun j hj hji => ?_⟩, fun hb => ?_⟩
          · by_cases eij : j = i
            · subst eij
              rw [k1, k2]
              exact hb
            · exact e j hj (by omega)
          · have hb' : lex f1 f2 = false := by simpa using hb
            have z := q _ e2
            have e5 : adjB lex fss = false := by
              cases e6 : adjB lex fss with
              | false => rfl
              | true =>
                have := adjB_iff.mp e6 i g2
                rw [k1, k2, hb'] at this
                cases this
            rw [e5] at z
            rw [hb']
            exact z
/-! ### is_rising of any thing -/
def spRisingX (K : PySem.W.Frag) (Ps : Tbs) : Sp := fun vs H Q _ => ∃ (x : V) (d : PyData) (m : Int), vs = [x, .int m] ∧ Th K H x d ∧ wide d = true ∧ Tb Ps H ∧ ∀ H', Ext Ps H H' → Q (.bl (risD d m)) H'
theorem ok_risingX {fB cB fR cR : Addr} {fdB fdR : FuncData} (D : Def K mg "is_rising" sRising ["thing", "many"] f fd c) (DB : Def K mg "all_below" sBelow ["thing", "many"] fB fdB cB) (DR : Def K mg "rises" sRises ["things"] fR fdR cR)
    (GB : FnOk P w K mg base CX0 (k + 3) fB fdB ["thing", "many"] (spBelowX K Ps)) (GR : FnOk P w K mg base CX0 (k + 3) fR fdR ["things"] (spRisesX K Ps)) : FnOk P w K mg base CX0 (k + 4) f fd ["thing", "many"] (spRisingX K Ps) := by
  refine D.ok (k := k + 3) scRising (fun vs H Q E h => ?_) (fun A outer s H vs Q E hr h => ?_)
  · obtain ⟨x, d, m, rfl, _⟩ := h
    rfl
  · obtain ⟨x, d, m, rfl, hx, hw, ht, q⟩ := h
    refine ⟨_, pss_one (ps_ret (pe_and (pcl DB GB hr (pa_cons (pv 0) (pa_cons (pv 1) pa_nil))) (pe_one (pcl DR GR hr (pa_cons (pv 0) pa_nil))))), ?_⟩
    refine ⟨x, rfl, .int m, rfl, x, d, m, rfl, hx, ht, fun H1 e1 => ⟨belowD d m, rfl, ?_⟩⟩
    cases hb : belowD d m with
    | false =>
      have e5 : risD d m = false := by
        unfold risD
        rw [hb]
        rfl
      have z := q _ e1
      rw [e5] at z
      exact iteF z
    | true =>
      obtain ⟨ns, rfl, hns⟩ := below_ints hb
      have e5 : risD (tD ns) m = adjB ltI ns := by
        unfold risD
        rw [hb, intsOf_tD]
        rfl
      have hl : ns.length ≤ 1000 := by
        have h0 : wide (.tuple (iD ns)) = true := hw
        rw [wide, Bool.and_eq_true, decide_eq_true_eq, List.length_map] at h0
        exact h0.1
      rw [e5] at q
      cases hx with
      | @tup a xs _ hS ha =>
      obtain ⟨ms, rfl, e4⟩ := th_asInts ha fun d hd => by
        obtain ⟨i, _, rfl⟩ := List.mem_map.mp hd
        exact ⟨i, rfl⟩
      have e6 : ns = ms := List.map_inj_right (fun a b h => by cases h; rfl) |>.mp (show ns.map PyData.int = ms.map PyData.int from e4)
      subst e6
      exact iteT ⟨.ref a, rfl, a, _, adjB ltI ns, rfl, e1.sqT hS, .inl ⟨ns, rfl, rfl⟩, by rw [List.length_map]; exact hl, e1.tb, fun H2 e2 => q _ (e1.trans e2)⟩
end
end Lf

set_option maxHeartbeats 2000000
namespace Lf
open PySem PySem.Spec PyProof.Rows L2 GxR GxA SrT
theorem lexT : ∀ {a b c : List Int}, lex a b = true → lex b c = true → lex a c = true
  | [], [], _, h, _ => by cases h
  | [], _ :: _, [], _, h => by cases h
  | [], _ :: _, _ :: _, _, _ => rfl
  | _ :: _, [], _, h, _ => by cases h
  | _ :: _, _ :: _, [], _, h => by cases h
  | x :: xs, y :: ys, z :: zs, h1, h2 => by
    have a1 : (if x = y then lex xs ys else decide (x < y)) = true := h1
    have a2 : (if y = z then lex ys zs else decide (y < z)) = true := h2
    show (if x = z then lex xs zs else decide (x < z)) = true
    by_cases e1 : x = y
    · by_cases e2 : y = z
      · rw [if_pos e1] at a1
        rw [if_pos e2] at a2
        rw [if_pos (e1.trans e2)]
        exact lexT a1 a2
      · rw [if_neg e2] at a2
        rw [if_neg (by omega)]
        have := of_decide_eq_true a2
        exact decide_eq_true (by omega)
    · rw [if_neg e1] at a1
      have b1 := of_decide_eq_true a1
      by_cases e2 : y = z
      · rw [if_neg (by omega)]
        exact decide_eq_true (by omega)
      · rw [if_neg e2] at a2
        have b2 := of_decide_eq_true a2
        rw [if_neg (by omega)]
        exact decide_eq_true (by omega)
theorem wide_tup {ds : List PyData} (h : wide (.tuple ds) = true) : ds.length ≤ 1000 ∧ ∀ d ∈ ds, wide d = true := by
  rw [wide, Bool.and_eq_true, decide_eq_true_eq] at h
  exact ⟨h.1, fun d hd => wideAll_mem h.2 hd⟩
/-- where all are rising, they are tuples of ints -/
theorem all_ris {ds : List PyData} {n k : Int} (h : (ds.all fun f => risD f n && decide ((lenD f : Int) = k)) = true) : ∃ fss : List (List Int), ds = fss.map tD ∧ ∀ g ∈ fss, (∀ i ∈ g, 0 ≤ i ∧ i < n) ∧ g.Pairwise (· < ·) ∧ (g.length : Int) = k := by
  induction ds with
  | nil => exact ⟨[], rfl, fun g hg => by cases hg⟩
  | cons d ds ih =>
    rw [List.all_cons, Bool.and_eq_true, Bool.and_eq_true, decide_eq_true_eq] at h
    obtain ⟨⟨h1, h2⟩, h3⟩ := h
    obtain ⟨fss, e1, e2⟩ := ih h3
    obtain ⟨ns, rfl, h4, h5⟩ := risD_iff.mp h1
    have h6 : (ns.length : Int) = k := by
      have z : lenD (tD ns) = ns.length := List.length_map ..
      rw [z] at h2
      exact h2
    refine ⟨ns :: fss, by rw [e1]; rfl, fun g hg => ?_⟩
    rcases List.mem_cons.mp hg with rfl | hg
    · exact ⟨h4, h5, h6⟩
    · exact e2 g hg
theorem map_ints (fss : List (List Int)) : (fss.map tD).map intsOf = fss := by
  rw [List.map_map]
  have e : (intsOf ∘ tD) = id := by
    funext g
    exact intsOf_tD g
  rw [e, List.map_id]
/-- a stack by its data -/
theorem isStackD_iff {d : PyData} : isStackD d = true ↔ ∃ n k fss, d = stkD n k fss ∧ StkOk n k fss := by
  constructor
  · intro h
    unfold isStackD at h
    split at h
    · rename_i n k f
      rw [Bool.and_eq_true, Bool.and_eq_true, decide_eq_true_eq, decide_eq_true_eq] at h
      obtain ⟨⟨hn, hk⟩, hf⟩ := h
      unfold facesD at hf
      split at hf
      · rename_i ds
        rw [Bool.and_eq_true, Bool.and_eq_true, decide_eq_true_eq] at hf
        obtain ⟨⟨hl, ha⟩, hs⟩ := hf
        obtain ⟨fss, rfl, hg⟩ := all_ris ha
        rw [map_ints, adjB_pw (lt := lex) fun a b c h1 h2 => lexT h1 h2] at hs
        rw [List.length_map] at hl
        exact ⟨n, k, fss, rfl, hn.1, hn.2, hk.1, hk.2.1, hk.2.2, hl.1, hl.2, fun g h => (hg g h).2.2, fun g h => (hg g h).2.1, fun g h => (hg g h).1, hs⟩
      · cases hf
    · cases h
  · rintro ⟨n, k, fss, rfl, S⟩
    show (decide (1 ≤ n ∧ n ≤ 8) && decide (0 ≤ k ∧ k ≤ n ∧ k ≤ 4) && facesD n k (.tuple (fss.map tD))) = true
    rw [decide_eq_true ⟨S.n1, S.n8⟩, decide_eq_true ⟨S.k0, S.kn, S.k4⟩, Bool.and_self, Bool.true_and]
    show (decide (1 ≤ (fss.map tD).length ∧ (fss.map tD).length ≤ 70) && ((fss.map tD).all fun f => risD f n && decide ((lenD f : Int) = k)) && adjB lex ((fss.map tD).map intsOf)) = true
    rw [map_ints, (adjB_pw (lt := lex) fun a b c h1 h2 => lexT h1 h2).mpr S.srt, List.length_map, decide_eq_true ⟨S.l1, S.l70⟩, Bool.true_and, Bool.and_true, List.all_map, List.all_eq_true]
    intro g hg
    show (risD (tD g) n && decide ((lenD (tD g) : Int) = k)) = true
    rw [risD_iff.mpr ⟨g, rfl, S.bel g hg, S.ris g hg⟩, Bool.true_and]
    have z : lenD (tD g) = g.length := List.length_map ..
    rw [z]
    exact decide_eq_true (S.len g hg)
section
variable {P : Program} {w : World} {K : PySem.W.Frag} {mg : Str → Option Value} {base : Heap} {Ps : Tbs} {H H' H0 : Hp} {k : Nat} {f c : Addr} {fd : FuncData}
/-! ### are_faces of any thing -/
def spAreFacesX (K : PySem.W.Frag) (Ps : Tbs) : Sp := fun vs H Q _ => ∃ (n k : Int) (x : V) (d : PyData), vs = [.int n, .int k, x] ∧ Th K H x d ∧ wide d = true ∧ Tb Ps H ∧ ∀ H', Ext Ps H H' → Q (.bl (facesD n k d)) H'
theorem ok_areFacesX {fR cR fS cS PT : Addr} {fdR fdS : FuncData} {t70 : Tok} (D : Def K mg "are_faces" sAreFaces ["n", "k", "thing"] f fd c) (DR : Def K mg "is_rising" sRising ["thing", "many"] fR fdR cR) (GR : FnOk P w K mg base CX0 k fR fdR ["thing", "many"] (spRisingX K Ps))
    (DS : Def K mg "rises" sRises ["things"] fS fdS cS) (GS : FnOk P w K mg base CX0 (k + 1) fS fdS ["things"] (spRisesX K Ps)) (TB : TabB base mg c PT) (hP : PT ∈ Ps)
    (mi : mg "isinstance" = none) (mt : mg "tuple" = none) (ml : mg "len" = none) (ma : mg "all" = none) (m70 : mg "MOST_FACES" = some (.int 70 t70)) : FnOk P w K mg base CX0 (k + 2) f fd ["n", "k", "thing"] (spAreFacesX K Ps) := by
  refine D.ok (k := k + 1) scAreFaces (fun vs H Q E h => ?_) (fun A outer s H vs Q E hr h => ?_)
  · obtain ⟨n, kk, x, d, rfl, _⟩ := h
    rfl
  · obtain ⟨n, kk, x, d, rfl, hx, hw, ht, q⟩ := h
    refine ⟨_, pss_cons (ps_if (PW.pt (pw_or (pt_not (pt_val (pe_callB call_isi (by rfl) mi (by decide +kernel) (pa_cons (pv 2) (pa_cons (pe_bltn (v := .ty "tuple") (by rfl) mt (by decide +kernel) rfl) pa_nil)))))
        (pw_or1 (pt_not (pt_chain op_le op_le pe_int (pe_callB call_len_seq (by rfl) ml PySem.boot_len (pa_cons (pv 2) pa_nil)) (pe_glob rfl m70 (v := .int 70) ⟨_, rfl⟩)))))) (pss_one (ps_ret pe_bl)) pss_nil)
      (pss_one (ps_ret (pe_and (pe_allG (k := k) (caps := [0, 1]) (xs := ["n", "k"]) hr (by rfl) ma TB rfl (genS rfl rfl (by decide +kernel) rfl rfl) ⟨⟨rfl, .inl rfl, rfl⟩, ⟨rfl, .inl rfl, rfl⟩, trivial⟩ (by decide +kernel) (pi_tup (pv 2))
        (fun _ _ _ _ _ _ _ hr' => pe_and (pcl DR GR hr' (pa_cons (pv 0) (pa_cons (pv 1) pa_nil))) (pe_one (pe_cmpR op_eq (pe_callB (call_lenS (K := K) rfl) (by rfl) ml PySem.boot_len (pa_cons (pv 0) pa_nil)) (pv 2) (nomark _)))) (fun _ => rfl))
        (pe_one (pcl DS GS hr (pa_cons (pv 2) pa_nil)))))), ?_⟩
    obtain ⟨t, ty, hk⟩ := tup_kit hx
    refine ⟨x, rfl, x, .ty "tuple", .type t, .type "tuple", isTup d, rfl, .ty _, ty, kit_ty hk, isTup d, rfl, ?_⟩
    have no : isTup d = false → facesD n kk d = false := by
      intro e
      cases d with
      | tuple ds => cases e
      | _ => rfl
    cases hd : isTup d with
    | false =>
      have z := q _ (Ext.refl ht)
      rw [no hd] at z
      exact iteT z
    | true =>
      cases d with
      | tuple ds =>
        cases hx with
        | @tup a xs _ hS ha =>
        have hlen := thAll_len ha
        obtain ⟨hw1, hw2⟩ := wide_tup hw
        refine iteF ⟨.ref a, rfl, a, xs, rfl, .inr hS, 1, (xs.length : Int), rfl, rfl, decide ((1 : Int) ≤ (xs.length : Int)), rfl, ?_⟩
        by_cases c1 : 1 ≤ ds.length ∧ ds.length ≤ 70
        · rw [decide_eq_true (show (1 : Int) ≤ (xs.length : Int) by omega)]
          refine iteT ⟨(xs.length : Int), 70, rfl, rfl, decide ((xs.length : Int) ≤ 70), rfl, ?_⟩
          rw [decide_eq_true (show (xs.length : Int) ≤ 70 by omega)]
          refine iteF ⟨.ref a, rfl, a, rfl, ⟨_, hS⟩, ht.gen PT hP, fun H2 hT2 => ?_⟩
          have e2 := Ext.of_tabbed ht hP hT2
          refine gW_tup (xs := xs) (fun i H3 => Ext Ps H H3 ∧ ((ds.take i).all fun f => risD f n && decide ((lenD f : Int) = kk)) = true) ⟨e2, rfl⟩ (fun i H3 e => e.1.sqT hS) (fun H3 e => ?_) fun i H3 y hy e => ?_
          · obtain ⟨e, h2⟩ := e
            rw [hlen, List.take_length] at h2
            have ef : facesD n kk (.tuple ds) = adjB lex (ds.map intsOf) := by
              show (decide (1 ≤ ds.length ∧ ds.length ≤ 70) && (ds.all fun f => risD f n && decide ((lenD f : Int) = kk)) && adjB lex (ds.map intsOf)) = _
              rw [decide_eq_true c1, h2]
              rfl
            rw [ef] at q
            obtain ⟨fss, rfl, hg⟩ := all_ris h2
            rw [map_ints] at q
            obtain ⟨gss, hp, e4⟩ := th_asTups (e.thAll ha) fun d hd => by
              obtain ⟨g, _, rfl⟩ := List.mem_map.mp hd
              exact ⟨g, rfl⟩
            have e5 : fss = gss := by
              have z := congrArg (List.map intsOf) e4
              rw [map_ints, map_ints] at z
              exact z
            subst e5
            exact ⟨true, rfl, iteT ⟨.ref a, rfl, a, xs, _, rfl, e.sqT hS, .inr ⟨fss, hp, rfl⟩, by omega, e.tb, fun H4 e4 => q _ (e.trans e4)⟩⟩
          · obtain ⟨e, h2⟩ := e
            obtain ⟨d', hd', hy'⟩ := thAll_get ha hy
            have hm := List.mem_of_getElem? hd'
            have wrong : (risD d' n && decide ((lenD d' : Int) = kk)) = false → facesD n kk (.tuple ds) = false := fun hb => by
              have z : (ds.all fun f => risD f n && decide ((lenD f : Int) = kk)) = false := by
                rw [List.all_eq_false]
                exact ⟨d', hm, by rw [hb]; simp⟩
              show (decide (1 ≤ ds.length ∧ ds.length ≤ 70) && (ds.all fun f => risD f n && decide ((lenD f : Int) = kk)) && adjB lex (ds.map intsOf)) = false
              rw [z, Bool.and_false, Bool.false_and]
            refine ⟨y, rfl, .int n, rfl, y, d', n, rfl, e.th hy', hw2 d' hm, e.tb, fun H4 e4 => ⟨risD d' n, rfl, ?_⟩⟩
            cases hb : risD d' n with
            | false =>
              have z := q _ (e.trans e4)
              rw [wrong (by rw [hb]; rfl)] at z
              exact iteF ⟨false, rfl, (fun y => by cases y), fun _ => ⟨false, rfl, iteF z⟩⟩
            | true =>
              obtain ⟨g, rfl, hg1, hg2⟩ := risD_iff.mp hb
              obtain ⟨gt, rfl, hgs⟩ : TupI K H4 y g := by
                cases (e4.th (e.th hy')) with
                | @tup b zs _ hS2 ha2 =>
                obtain ⟨ms, rfl, e7⟩ := th_asInts ha2 fun d hd => by
                  obtain ⟨i, _, rfl⟩ := List.mem_map.mp hd
                  exact ⟨i, rfl⟩
                have e8 : g = ms := List.map_inj_right (fun a b h => by cases h; rfl) |>.mp (show g.map PyData.int = ms.map PyData.int from e7)
                subst e8
                exact ⟨b, rfl, hS2⟩
              have el : lenD (tD g) = g.length := List.length_map ..
              refine iteT ⟨.ref gt, rfl, gt, _, rfl, .inr hgs, .int kk, rfl, rfl, decide ((g.length : Int) = kk), ?_, fun hb2 => ⟨e.trans e4, ?_⟩, fun hb2 => ?_⟩
              · rw [List.length_map]
                refine congrArg V.bl ?_
                by_cases e9 : (g.length : Int) = kk
                · rw [decide_eq_true e9, decide_eq_true (congrArg V.int e9)]
                · rw [decide_eq_false e9, decide_eq_false (fun z => e9 (V.int.inj z))]
              · rw [List.take_add_one, hd', List.all_append, h2]
                simp only [Bool.true_and, Option.toList_some, List.all_cons, List.all_nil, Bool.and_true]
                rw [hb, el, hb2]
                rfl
              · have z := q _ (e.trans e4)
                have hb3 : decide ((g.length : Int) = kk) = false := by simpa using hb2
                rw [wrong (by rw [hb, el, hb3]; rfl)] at z
                refine ⟨decide ((g.length : Int) = kk), rfl, ?_⟩
                rw [hb3]
                exact iteF z
        · have ef : facesD n kk (.tuple ds) = false := by
            show (decide (1 ≤ ds.length ∧ ds.length ≤ 70) && (ds.all fun f => risD f n && decide ((lenD f : Int) = kk)) && adjB lex (ds.map intsOf)) = false
            rw [decide_eq_false c1]
            rfl
          have z := q _ (Ext.refl ht)
          rw [ef] at z
          by_cases c2 : 1 ≤ ds.length
          · rw [decide_eq_true (show (1 : Int) ≤ (xs.length : Int) by omega)]
            refine iteT ⟨(xs.length : Int), 70, rfl, rfl, decide ((xs.length : Int) ≤ 70), rfl, ?_⟩
            rw [decide_eq_false (show ¬ (xs.length : Int) ≤ 70 by omega)]
            exact iteT z
          · rw [decide_eq_false (show ¬ (1 : Int) ≤ (xs.length : Int) by omega)]
            exact iteF ⟨false, rfl, iteT z⟩
      | _ => cases hd
end
end Lf

set_option maxHeartbeats 2000000
namespace Lf
open PySem PySem.Spec PyProof.Rows L2 GxR GxA SrT
section
variable {P : Program} {w : World} {K : PySem.W.Frag} {mg : Str → Option Value} {base : Heap} {Ps : Tbs} {H H' H0 : Hp} {k : Nat} {f c : Addr} {fd : FuncData}
/-- two promises of one def -/
theorem fn_or {CX : CXT} {ps : List Str} {sp sp' : Sp} (F : FnOk P w K mg base CX k f fd ps sp) (G : FnOk P w K mg base CX k f fd ps sp') : FnOk P w K mg base CX k f fd ps (fun vs H Q E => sp vs H Q E ∨ sp' vs H Q E) :=
  ⟨fun vs H Q E h => h.elim (F.len vs H Q E) (G.len vs H Q E), fun A outer s H args us vs Q E r0 r1 r2 r3 h => h.elim (F.run A outer s H args us vs Q E r0 r1 r2 r3) (G.run A outer s H args us vs Q E r0 r1 r2 r3)⟩
/-- a def that refuses nothing, among those that may -/
theorem fn_lift {ps : List Str} {sp : Sp} (F : FnOk P w K mg base CX0 k f fd ps sp) : FnOk P w K mg base (L2.CX P w) k f fd ps sp :=
  ⟨F.len, fun A outer s H args us vs Q E r0 r1 r2 r3 h => codeAny_mono (F.run A outer s H args us vs Q E r0 r1 r2 r3 h) fun r s' hq => match r, hq with
    | .ok (.ret _), hq => hq
    | .error _, hq => False.elim hq⟩
theorem isStackD_len {ds : List PyData} (h : ds.length ≠ 3) : isStackD (.tuple ds) = false := by
  unfold isStackD
  split
  · rename_i n k f e
    cases e
    exact absurd rfl h
  · rfl
/-- is_stack of three things -/
theorem isStackD_3 (d1 d2 d3 : PyData) : isStackD (.tuple [d1, d2, d3]) = true → ∃ n k, d1 = .int n ∧ d2 = .int k ∧ 1 ≤ n ∧ n ≤ 8 ∧ 0 ≤ k ∧ k ≤ n ∧ k ≤ 4 ∧ facesD n k d3 = true := by
  intro h
  unfold isStackD at h
  split at h
  · rename_i n k f e
    simp only [PyData.tuple.injEq, List.cons.injEq, and_true] at e
    obtain ⟨rfl, rfl, rfl⟩ := e
    rw [Bool.and_eq_true, Bool.and_eq_true, decide_eq_true_eq, decide_eq_true_eq] at h
    exact ⟨n, k, rfl, rfl, h.1.1.1, h.1.1.2, h.1.2.1, h.1.2.2.1, h.1.2.2.2, h.2⟩
  · cases h
def spIsStackX (K : PySem.W.Frag) (Ps : Tbs) : Sp := fun vs H Q _ => ∃ (x : V) (d : PyData), vs = [x] ∧ Th K H x d ∧ wide d = true ∧ Tb Ps H ∧ ∀ H', Ext Ps H H' → Q (.bl (isStackD d)) H'
theorem ok_isStackX {fW cW fA cA : Addr} {fdW fdA : FuncData} {t8 t4 : Tok} (D : Def K mg "is_stack" sIsStack ["thing"] f fd c) (DW : Def K mg "is_within" sWithin ["thing", "least", "most"] fW fdW cW) (GW : FnOk P w K mg base CX0 k fW fdW ["thing", "least", "most"] (spWithinX K))
    (DA : Def K mg "are_faces" sAreFaces ["n", "k", "thing"] fA fdA cA) (GA : FnOk P w K mg base CX0 k fA fdA ["n", "k", "thing"] (spAreFacesX K Ps))
    (mi : mg "isinstance" = none) (mt : mg "tuple" = none) (ml : mg "len" = none) (mm : mg "min" = none) (m8 : mg "MOST_POINTS" = some (.int 8 t8)) (m4 : mg "MOST_IN_FACE" = some (.int 4 t4)) : FnOk P w K mg base CX0 (k + 1) f fd ["thing"] (spIsStackX K Ps) := by
  refine D.ok (k := k) scIsStack (fun vs H Q E h => ?_) (fun A outer s H vs Q E hr h => ?_)
  · obtain ⟨x, d, rfl, _⟩ := h
    rfl
  · obtain ⟨x, d, rfl, hx, hw, ht, q⟩ := h
    refine ⟨_, pss_cons (ps_if (PW.pt (pw_or (pt_not (pt_val (pe_callB call_isi (by rfl) mi (by decide +kernel) (pa_cons (pv 0) (pa_cons (pe_bltn (v := .ty "tuple") (by rfl) mt (by decide +kernel) rfl) pa_nil)))))
        (pw_or1 (pt_cmpR op_ne (pe_callB (call_lenS (K := K) rfl) (by rfl) ml PySem.boot_len (pa_cons (pv 0) pa_nil)) pe_int (nomark _))))) (pss_one (ps_ret pe_bl)) pss_nil)
      (pss_cons (ps_asg (pv 0) (pg_tup (by rfl) (pgs_cons (pg_name (i := 1) scIsStack.nd rfl (.inl rfl)) (pgs_cons (pg_name (i := 2) scIsStack.nd rfl (.inl rfl)) (pgs_cons (pg_name (i := 3) scIsStack.nd rfl (.inl rfl)) pgs_nil)))))
      (pss_cons (ps_if (PW.pt (pw_or (pt_not (pt_val (pcl DW GW hr (pa_cons (pv 1) (pa_cons pe_int (pa_cons (pe_glob rfl m8 (v := .int 8) ⟨_, rfl⟩) pa_nil))))))
        (pw_or1 (pt_not (pt_val (pcl DW GW hr (pa_cons (pv 2) (pa_cons pe_int (pa_cons (pe_callB (call_min2 rfl) (by rfl) mm (by decide +kernel) (pa_cons (pv 1) (pa_cons (pe_glob rfl m4 (v := .int 4) ⟨_, rfl⟩) pa_nil))) pa_nil))))))))) (pss_one (ps_ret pe_bl)) pss_nil)
      (pss_one (ps_ret (pcl DA GA hr (pa_cons (pv 1) (pa_cons (pv 2) (pa_cons (pv 3) pa_nil)))))))), ?_⟩
    obtain ⟨t, ty, hk⟩ := tup_kit hx
    have qf : isStackD d = false → Q (.bl false) H := fun e => by
      have z := q _ (Ext.refl ht)
      rw [e] at z
      exact z
    refine ⟨x, rfl, x, .ty "tuple", .type t, .type "tuple", isTup d, rfl, .ty _, ty, kit_ty hk, isTup d, rfl, ?_⟩
    cases d with
    | tuple ds =>
      cases hx with
      | @tup a xs _ hS ha =>
      have hlen := thAll_len ha
      refine iteF ⟨.ref a, rfl, a, xs, rfl, .inr hS, rfl, !decide (xs.length = 3), ?_, ?_⟩
      · refine congrArg V.bl ?_
        by_cases e : xs.length = 3
        · rw [decide_eq_true e, decide_eq_true (by rw [e]; rfl)]
        · rw [decide_eq_false e, decide_eq_false (fun z => e (by have := V.int.inj z; omega))]
      match ds, xs, ha, hlen with
      | [d1, d2, d3], [x1, x2, x3], .cons h1 (.cons h2 (.cons h3 .nil)), _ =>
        obtain ⟨_, hw2⟩ := wide_tup hw
        refine iteF ⟨.ref a, rfl, a, _, rfl, hS, rfl, _, _, rfl, _, _, rfl, _, _, rfl, rfl, ?_⟩
        refine ⟨x1, rfl, x1, d1, 1, 8, rfl, h1, intIn d1 1 8, rfl, ?_⟩
        cases b1 : intIn d1 1 8 with
        | false =>
          refine iteT (qf ?_)
          cases e : isStackD (.tuple [d1, d2, d3]) with
          | false => rfl
          | true =>
            obtain ⟨n, kk, rfl, rfl, e1, e2, _⟩ := isStackD_3 _ _ _ e
            rw [show intIn (.int n) 1 8 = true from by show (decide (1 ≤ n) && decide (n ≤ 8)) = true; rw [decide_eq_true e1, decide_eq_true e2]; rfl] at b1
            cases b1
        | true =>
          cases d1 with
          | int n =>
            cases h1
            have hn : 1 ≤ n ∧ n ≤ 8 := by
              have z : (decide (1 ≤ n) && decide (n ≤ 8)) = true := b1
              rw [Bool.and_eq_true, decide_eq_true_eq, decide_eq_true_eq] at z
              exact z
            have hmin : ∀ m : Int, (m ≤ n ∧ m ≤ 4 ∧ (m = n ∨ m = 4)) → (∃ b : Bool, V.bl (intIn d2 0 m) = V.bl b ∧ (if (!b) = true then Q (.bl false) H else tCall (spAreFacesX K Ps) [] E0 (tCons (tVar 1) (tCons (tVar 2) (tCons (tVar 3) tNil))) [some (.ref a), some (.int n), some x2, some x3] H Q)) := by
              intro m hm
              refine ⟨intIn d2 0 m, rfl, ?_⟩
              cases b2 : intIn d2 0 m with
              | false =>
                refine iteT (qf ?_)
                cases e : isStackD (.tuple [.int n, d2, d3]) with
                | false => rfl
                | true =>
                  obtain ⟨n', kk, e0, rfl, e1, e2, e3, e4, e5, _⟩ := isStackD_3 _ _ _ e
                  cases e0
                  rw [show intIn (.int kk) 0 m = true from by show (decide (0 ≤ kk) && decide (kk ≤ m)) = true; rw [decide_eq_true e3, decide_eq_true (by omega)]; rfl] at b2
                  cases b2
              | true =>
                cases d2 with
                | int kk =>
                  cases h2
                  have hkk : 0 ≤ kk ∧ kk ≤ m := by
                    have z : (decide (0 ≤ kk) && decide (kk ≤ m)) = true := b2
                    rw [Bool.and_eq_true, decide_eq_true_eq, decide_eq_true_eq] at z
                    exact z
                  have hk2 : kk ≤ n ∧ kk ≤ 4 := by omega
                  have e6 : isStackD (.tuple [.int n, .int kk, d3]) = facesD n kk d3 := by
                    show (decide (1 ≤ n ∧ n ≤ 8) && decide (0 ≤ kk ∧ kk ≤ n ∧ kk ≤ 4) && facesD n kk d3) = _
                    rw [decide_eq_true hn, decide_eq_true ⟨hkk.1, hk2.1, hk2.2⟩]
                    rfl
                  refine iteF ⟨.int n, rfl, .int kk, rfl, x3, rfl, n, kk, x3, d3, rfl, h3, hw2 d3 (by simp), ht, fun H' e => ?_⟩
                  rw [← e6]
                  exact q H' e
                | _ => cases b2
            refine iteF ⟨x2, rfl, .int n, rfl, n, 4, rfl, x2, d2, 0, _, rfl, h2, ?_⟩
            obtain ⟨b, e1, e2⟩ := hmin _ (show (if (4 : Int) < n then (4 : Int) else n) ≤ n ∧ _ from by split <;> omega)
            exact ⟨b, e1, e2⟩
          | _ => cases b1
      | [], [], _, _ => exact iteT (qf (isStackD_len (by simp)))
      | [_], [_], _, _ => exact iteT (qf (isStackD_len (by simp)))
      | [_, _], [_, _], _, _ => exact iteT (qf (isStackD_len (by simp)))
      | d1 :: d2 :: d3 :: d4 :: ds, x1 :: x2 :: x3 :: x4 :: xs, _, _ =>
        have e3 : decide ((x1 :: x2 :: x3 :: x4 :: xs).length = 3) = false := decide_eq_false (by simp)
        rw [e3]
        exact iteT (qf (isStackD_len (by simp)))
    | none => exact iteT (qf rfl)
    | bool b => exact iteT (qf rfl)
    | int i => exact iteT (qf rfl)
    | str z => exact iteT (qf rfl)
    | list ds => exact iteT (qf rfl)
    | dict kvs => exact iteT (qf rfl)
end
end Lf

set_option maxHeartbeats 4000000
namespace Lf
open PySem PySem.Spec PyProof.Rows L2 GxR GxA SrT
abbrev sKinds : Stmt := topS 43
abbrev sRefused : Stmt := topS 44
theorem scKinds : FnScope ["_law_e", "_law_found", "_law_words"] ["_law_e"] (defScope sKinds) := ⟨rfl, rfl, rfl, by decide +kernel, rfl, by decide +kernel, by decide +kernel⟩
theorem scRefused : FnScope ["_law_call", "_law_e"] ["_law_call"] (defScope sRefused) := ⟨rfl, rfl, rfl, by decide +kernel, rfl, by decide +kernel, by decide +kernel⟩
/-- the classes of refusals by their names -/
structure Kinds (mg : Str → Option Value) (C : Nat → Addr) : Prop where
  n0 : mg "NoStack" = some (.ref (C 0))
  n1 : mg "NoNumber" = some (.ref (C 1))
  n2 : mg "NoPart" = some (.ref (C 2))
  n3 : mg "NoLot" = some (.ref (C 3))
  n4 : mg "NoRow" = some (.ref (C 4))
  n5 : mg "NoOrder" = some (.ref (C 5))
  n6 : mg "NoNames" = some (.ref (C 6))
  n7 : mg "NoRim" = some (.ref (C 7))
  n8 : mg "NoTaking" = some (.ref (C 8))
  n9 : mg "NoText" = some (.ref (C 9))
  n10 : mg "NoLine" = some (.ref (C 10))
  n11 : mg "NoDeed" = some (.ref (C 11))
  n12 : mg "TooGreat" = some (.ref (C 12))
/-- the class at D is the i-th -/
structure Kind (K : PySem.W.Frag) (C : Nat → Addr) (CL : Addr) (i : Nat) (D : Addr) : Prop where
  lt : i < 12
  exc : ExcC K D
  kit : ∀ j, j < 13 → PySem.W.kitOne K (.ref D) (.ref (C j)) = some (decide (j = i))
  ve : PySem.W.kitOne K (.ref D) (.type "ValueError") = some true
  lay : PySem.W.exmOne K (.ref D) (.ref CL) = some true
def words : List Str := ["stack", "number", "part", "lot", "row", "order", "names", "rim", "taking", "text", "line", "deed"]
def wordOf (i : Nat) : Str := words.getD i ""
def boolsAt (i : Nat) : List Bool := (List.range 13).map fun j => decide (j = i)
theorem bools_dp {K : PySem.W.Frag} {H : Hp} : ∀ bs : List Bool, DpAll K H (bs.map V.bl) (bs.map PyData.bool)
  | [] => .nil
  | b :: bs => .cons (.bl b) (bools_dp bs)
theorem eqv_bools : PyData.eqv (.bool true) (.bool true) = true ∧ PyData.eqv (.bool false) (.bool true) = false := ⟨by simp [PyData.eqv], by simp [PyData.eqv]⟩
theorem bools_count (i : Nat) (h : i < 12) : ((boolsAt i).map PyData.bool).countP (fun z => PyData.eqv z (.bool true)) = 1 := by
  have e : ∀ b : Bool, PyData.eqv (.bool b) (.bool true) = b := fun b => by cases b <;> simp [PyData.eqv]
  rw [List.countP_map]
  have e2 : ((fun z => PyData.eqv z (.bool true)) ∘ PyData.bool) = id := by
    funext b
    exact e b
  rw [e2]
  have z : ((List.range 12).all fun i => decide ((boolsAt i).countP id = 1)) = true := by decide +kernel
  exact of_decide_eq_true (List.all_eq_true.mp z i (List.mem_range.mpr h))
theorem bools_at {i j : Nat} (h : j < 13) : ((boolsAt i).map PyData.bool)[j]? = some (.bool (decide (j = i))) := by
  unfold boolsAt
  rw [List.getElem?_map, List.getElem?_map, List.getElem?_range h]
  rfl
theorem bools_plain : ∀ bs : List Bool, PyData.plainAll (bs.map PyData.bool) = true ∧ PyData.canLayAll0 (bs.map PyData.bool) = true ∧ PyData.depthAll (bs.map PyData.bool) = 0
  | [] => ⟨by simp [PyData.plainAll], by simp [PyData.canLayAll0], by simp [PyData.depthAll]⟩
  | b :: bs => by
    obtain ⟨h1, h2, h3⟩ := bools_plain bs
    exact ⟨by simp [PyData.plainAll, PyData.plain, h1], by simp [PyData.canLayAll0, PyData.canLay0, h2], by simp [PyData.depthAll, PyData.depth, h3]⟩
section
variable {K : PySem.W.Frag} {mg : Str → Option Value} {C : Nat → Addr} {CL : Addr}
/-- what the kinds are told to be -/
def spKinds (Ps : Tbs) (a : Addr) (i : Nat) : Sp := fun vs H Q _ => vs = [.ref a] ∧ Tb Ps H ∧ ∀ H', Ext Ps H H' → Q (.str (wordOf i)) H'
theorem pe_kinds {X : Cx} {Ps : Tbs} {f c a D : Addr} {fd : FuncData} {i k : Nat} {oe : Obj} {e : Expr} {t : TA} {p pos : Pos} (DK : Def X.K X.mg "_law_kinds" sKinds ["_law_e"] f fd c) (G : Kinds X.mg C) (Z : Kind X.K C CL i D) (hz : Zc (.ref D) none oe) (hf : ∃ vs, oe.data = .fields vs) (hp : (a, oe) ∈ X.pn)
    (hr : L2H.RoomH (k + 1) X.A) (ha : PA X [e] t) (mi : X.mg "isinstance" = none) (mv : X.mg "ValueError" = none) (hg : Gl X "_law_kinds" := by rfl) (he : starEach [e] X.env = (false, eval e X.env) :: starEach [] X.env := by rfl) (hpl : (backTo pos (starEach [] X.env)).any (·.1) = false := by rfl) :
    PE X (.Call (.Name "_law_kinds" p) [e] [] pos) (tCall (spKinds Ps a i) [] E0 t) := by
  refine pe_hot (N := ["_law_e", "_law_found", "_law_words"]) DK scKinds hp hr ha (fun vs H Q E h => by rw [h.1]; rfl) (fun s H vs Q hr h => ?_) hg (by decide) he hpl
  obtain ⟨rfl, ht, q⟩ := h
  have hu : (X.A.deeper (envOfC "_law_kinds" (defScope sKinds) s.heap.objs.size f (.ref c))).units + 65 < cLine := by
    have := hr.un
    omega
  refine ⟨_, (pss_cons (ps_set (i := 1) scKinds.nd rfl (.inl rfl) (pe_lst (pa_cons (pe_callB (call_isP Z.exc hz hf (.head _)) (by rfl) mi (by decide +kernel) (pa_cons (pv 0) (pa_cons (pe_glob (v := .ref (C 0)) (by rfl) G.n0 rfl) pa_nil))) (pa_cons (pe_callB (call_isP Z.exc hz hf (.head _)) (by rfl) mi (by decide +kernel) (pa_cons (pv 0) (pa_cons (pe_glob (v := .ref (C 1)) (by rfl) G.n1 rfl) pa_nil))) (pa_cons (pe_callB (call_isP Z.exc hz hf (.head _)) (by rfl) mi (by decide +kernel) (pa_cons (pv 0) (pa_cons (pe_glob (v := .ref (C 2)) (by rfl) G.n2 rfl) pa_nil))) pa_nil))))) (pss_cons (ps_set (i := 1) scKinds.nd rfl (.inl rfl) (pe_op op_cat (pv 1) (pe_lst (pa_cons (pe_callB (call_isP Z.exc hz hf (.head _)) (by rfl) mi (by decide +kernel) (pa_cons (pv 0) (pa_cons (pe_glob (v := .ref (C 3)) (by rfl) G.n3 rfl) pa_nil))) (pa_cons (pe_callB (call_isP Z.exc hz hf (.head _)) (by rfl) mi (by decide +kernel) (pa_cons (pv 0) (pa_cons (pe_glob (v := .ref (C 4)) (by rfl) G.n4 rfl) pa_nil))) (pa_cons (pe_callB (call_isP Z.exc hz hf (.head _)) (by rfl) mi (by decide +kernel) (pa_cons (pv 0) (pa_cons (pe_glob (v := .ref (C 5)) (by rfl) G.n5 rfl) pa_nil))) pa_nil)))))) (pss_cons (ps_set (i := 1) scKinds.nd rfl (.inl rfl) (pe_op op_cat (pv 1) (pe_lst (pa_cons (pe_callB (call_isP Z.exc hz hf (.head _)) (by rfl) mi (by decide +kernel) (pa_cons (pv 0) (pa_cons (pe_glob (v := .ref (C 6)) (by rfl) G.n6 rfl) pa_nil))) (pa_cons (pe_callB (call_isP Z.exc hz hf (.head _)) (by rfl) mi (by decide +kernel) (pa_cons (pv 0) (pa_cons (pe_glob (v := .ref (C 7)) (by rfl) G.n7 rfl) pa_nil))) (pa_cons (pe_callB (call_isP Z.exc hz hf (.head _)) (by rfl) mi (by decide +kernel) (pa_cons (pv 0) (pa_cons (pe_glob (v := .ref (C 8)) (by rfl) G.n8 rfl) pa_nil))) pa_nil)))))) (pss_cons (ps_set (i := 1) scKinds.nd rfl (.inl rfl) (pe_op op_cat (pv 1) (pe_lst (pa_cons (pe_callB (call_isP Z.exc hz hf (.head _)) (by rfl) mi (by decide +kernel) (pa_cons (pv 0) (pa_cons (pe_glob (v := .ref (C 9)) (by rfl) G.n9 rfl) pa_nil))) (pa_cons (pe_callB (call_isP Z.exc hz hf (.head _)) (by rfl) mi (by decide +kernel) (pa_cons (pv 0) (pa_cons (pe_glob (v := .ref (C 10)) (by rfl) G.n10 rfl) pa_nil))) (pa_cons (pe_callB (call_isP Z.exc hz hf (.head _)) (by rfl) mi (by decide +kernel) (pa_cons (pv 0) (pa_cons (pe_glob (v := .ref (C 11)) (by rfl) G.n11 rfl) pa_nil))) pa_nil)))))) (pss_cons (ps_expr (pe_bm PySem.F.plainAttrs_list PySem.F.slot_list_append PySem.F.type_list_append mt_append (pv 1) (pa_cons (pe_callB (call_isP Z.exc hz hf (.head _)) (by rfl) mi (by decide +kernel) (pa_cons (pv 0) (pa_cons (pe_glob (v := .ref (C 12)) (by rfl) G.n12 rfl) pa_nil))) pa_nil))) (pss_cons (ps_if (PW.pt (pw_or (pt_not (pt_val (pe_callB (call_isP Z.exc hz hf (.head _)) (by rfl) mi (by decide +kernel) (pa_cons (pv 0) (pa_cons (pe_bltn (v := .ty "ValueError") (by rfl) mv (by decide +kernel) rfl) pa_nil))))) (pw_or1 (pt_cmpR op_ne (pe_bm PySem.F.plainAttrs_list PySem.F.slot_list_count PySem.F.type_list_count (mt_countD hu) (pv 1) (pa_cons pe_bl pa_nil)) pe_int (nomark _))))) (pss_one (ps_ret pe_str)) pss_nil) (pss_cons (ps_if (pt_val (pe_callB (call_isP Z.exc hz hf (.head _)) (by rfl) mi (by decide +kernel) (pa_cons (pv 0) (pa_cons (pe_glob (v := .ref (C 12)) (by rfl) G.n12 rfl) pa_nil)))) (pss_one ps_never) pss_nil) (pss_cons (ps_set (i := 2) scKinds.nd rfl (.inl rfl) (pe_lst (pa_cons pe_str (pa_cons pe_str (pa_cons pe_str (pa_cons pe_str (pa_cons pe_str (pa_cons pe_str (pa_cons pe_str (pa_cons pe_str (pa_cons pe_str pa_nil))))))))))) (pss_one (ps_ret (pe_ix ix_list (pe_op op_cat (pv 2) (pe_lst (pa_cons pe_str (pa_cons pe_str (pa_cons pe_str pa_nil))))) (pe_bm PySem.F.plainAttrs_list PySem.F.slot_list_index PySem.F.type_list_index (mt_indexD hu) (pv 1) (pa_cons pe_bl pa_nil)) (fun _ _ => rfl)))))))))))), ?_⟩
  have c3 : (3 : Nat) ≤ sizeLine := by decide
  refine ⟨.ref a, rfl, _, _, _, rfl, fun _ r => r, Z.kit 0 (by decide), ⟨.ref a, rfl, _, _, _, rfl, fun _ r => r, Z.kit 1 (by decide), ⟨.ref a, rfl, _, _, _, rfl, fun _ r => r, Z.kit 2 (by decide), ⟨c3, fun l1 n1 => ?_⟩⟩⟩⟩
  have e1 : Ext Ps H (upd H l1 (.lst [.bl (decide (0 = i)), .bl (decide (1 = i)), .bl (decide (2 = i))])) := Ext.new ht n1
  have h1 : (upd H l1 (.lst [.bl (decide (0 = i)), .bl (decide (1 = i)), .bl (decide (2 = i))])) l1 = some (.lst [.bl (decide (0 = i)), .bl (decide (1 = i)), .bl (decide (2 = i))]) := upd_same
  generalize upd H l1 (.lst [.bl (decide (0 = i)), .bl (decide (1 = i)), .bl (decide (2 = i))]) = H1 at *
  refine ⟨.ref l1, rfl, ⟨.ref a, rfl, _, _, _, rfl, fun _ r => r, Z.kit 3 (by decide), ⟨.ref a, rfl, _, _, _, rfl, fun _ r => r, Z.kit 4 (by decide), ⟨.ref a, rfl, _, _, _, rfl, fun _ r => r, Z.kit 5 (by decide), ⟨c3, fun p2 np2 => ?_⟩⟩⟩⟩⟩
  have f2 := Ext.new (o := .lst [.bl (decide (3 = i)), .bl (decide (4 = i)), .bl (decide (5 = i))]) e1.tb np2
  refine ⟨l1, p2, _, _, rfl, rfl, f2.lst h1, upd_same, Nat.le_of_lt (small1000 (by show 3 + 3 ≤ 1000; decide)), fun l2 n2 => ?_⟩
  have e2 : Ext Ps H (upd (upd H1 p2 (.lst [.bl (decide (3 = i)), .bl (decide (4 = i)), .bl (decide (5 = i))])) l2 (.lst ([.bl (decide (0 = i)), .bl (decide (1 = i)), .bl (decide (2 = i))] ++ [.bl (decide (3 = i)), .bl (decide (4 = i)), .bl (decide (5 = i))]))) := (e1.trans f2).trans (Ext.new f2.tb n2)
  have h2 : (upd (upd H1 p2 (.lst [.bl (decide (3 = i)), .bl (decide (4 = i)), .bl (decide (5 = i))])) l2 (.lst ([.bl (decide (0 = i)), .bl (decide (1 = i)), .bl (decide (2 = i))] ++ [.bl (decide (3 = i)), .bl (decide (4 = i)), .bl (decide (5 = i))]))) l2 = some (.lst [.bl (decide (0 = i)), .bl (decide (1 = i)), .bl (decide (2 = i)), .bl (decide (3 = i)), .bl (decide (4 = i)), .bl (decide (5 = i))]) := upd_same
  have m2 : H l2 = none := (e1.trans f2).free n2
  generalize upd (upd H1 p2 (.lst [.bl (decide (3 = i)), .bl (decide (4 = i)), .bl (decide (5 = i))])) l2 (.lst ([.bl (decide (0 = i)), .bl (decide (1 = i)), .bl (decide (2 = i))] ++ [.bl (decide (3 = i)), .bl (decide (4 = i)), .bl (decide (5 = i))])) = H2 at *
  refine ⟨.ref l2, rfl, ⟨.ref a, rfl, _, _, _, rfl, fun _ r => r, Z.kit 6 (by decide), ⟨.ref a, rfl, _, _, _, rfl, fun _ r => r, Z.kit 7 (by decide), ⟨.ref a, rfl, _, _, _, rfl, fun _ r => r, Z.kit 8 (by decide), ⟨c3, fun p3 np3 => ?_⟩⟩⟩⟩⟩
  have f3 := Ext.new (o := .lst [.bl (decide (6 = i)), .bl (decide (7 = i)), .bl (decide (8 = i))]) e2.tb np3
  refine ⟨l2, p3, _, _, rfl, rfl, f3.lst h2, upd_same, Nat.le_of_lt (small1000 (by show 6 + 3 ≤ 1000; decide)), fun l3 n3 => ?_⟩
  have e3 : Ext Ps H (upd (upd H2 p3 (.lst [.bl (decide (6 = i)), .bl (decide (7 = i)), .bl (decide (8 = i))])) l3 (.lst ([.bl (decide (0 = i)), .bl (decide (1 = i)), .bl (decide (2 = i)), .bl (decide (3 = i)), .bl (decide (4 = i)), .bl (decide (5 = i))] ++ [.bl (decide (6 = i)), .bl (decide (7 = i)), .bl (decide (8 = i))]))) := (e2.trans f3).trans (Ext.new f3.tb n3)
  have h3 : (upd (upd H2 p3 (.lst [.bl (decide (6 = i)), .bl (decide (7 = i)), .bl (decide (8 = i))])) l3 (.lst ([.bl (decide (0 = i)), .bl (decide (1 = i)), .bl (decide (2 = i)), .bl (decide (3 = i)), .bl (decide (4 = i)), .bl (decide (5 = i))] ++ [.bl (decide (6 = i)), .bl (decide (7 = i)), .bl (decide (8 = i))]))) l3 = some (.lst [.bl (decide (0 = i)), .bl (decide (1 = i)), .bl (decide (2 = i)), .bl (decide (3 = i)), .bl (decide (4 = i)), .bl (decide (5 = i)), .bl (decide (6 = i)), .bl (decide (7 = i)), .bl (decide (8 = i))]) := upd_same
  have m3 : H l3 = none := (e2.trans f3).free n3
  generalize upd (upd H2 p3 (.lst [.bl (decide (6 = i)), .bl (decide (7 = i)), .bl (decide (8 = i))])) l3 (.lst ([.bl (decide (0 = i)), .bl (decide (1 = i)), .bl (decide (2 = i)), .bl (decide (3 = i)), .bl (decide (4 = i)), .bl (decide (5 = i))] ++ [.bl (decide (6 = i)), .bl (decide (7 = i)), .bl (decide (8 = i))])) = H3 at *
  refine ⟨.ref l3, rfl, ⟨.ref a, rfl, _, _, _, rfl, fun _ r => r, Z.kit 9 (by decide), ⟨.ref a, rfl, _, _, _, rfl, fun _ r => r, Z.kit 10 (by decide), ⟨.ref a, rfl, _, _, _, rfl, fun _ r => r, Z.kit 11 (by decide), ⟨c3, fun p4 np4 => ?_⟩⟩⟩⟩⟩
  have f4 := Ext.new (o := .lst [.bl (decide (9 = i)), .bl (decide (10 = i)), .bl (decide (11 = i))]) e3.tb np4
  refine ⟨l3, p4, _, _, rfl, rfl, f4.lst h3, upd_same, Nat.le_of_lt (small1000 (by show 9 + 3 ≤ 1000; decide)), fun l4 n4 => ?_⟩
  have e4 : Ext Ps H (upd (upd H3 p4 (.lst [.bl (decide (9 = i)), .bl (decide (10 = i)), .bl (decide (11 = i))])) l4 (.lst ([.bl (decide (0 = i)), .bl (decide (1 = i)), .bl (decide (2 = i)), .bl (decide (3 = i)), .bl (decide (4 = i)), .bl (decide (5 = i)), .bl (decide (6 = i)), .bl (decide (7 = i)), .bl (decide (8 = i))] ++ [.bl (decide (9 = i)), .bl (decide (10 = i)), .bl (decide (11 = i))]))) := (e3.trans f4).trans (Ext.new f4.tb n4)
  have h4 : (upd (upd H3 p4 (.lst [.bl (decide (9 = i)), .bl (decide (10 = i)), .bl (decide (11 = i))])) l4 (.lst ([.bl (decide (0 = i)), .bl (decide (1 = i)), .bl (decide (2 = i)), .bl (decide (3 = i)), .bl (decide (4 = i)), .bl (decide (5 = i)), .bl (decide (6 = i)), .bl (decide (7 = i)), .bl (decide (8 = i))] ++ [.bl (decide (9 = i)), .bl (decide (10 = i)), .bl (decide (11 = i))]))) l4 = some (.lst [.bl (decide (0 = i)), .bl (decide (1 = i)), .bl (decide (2 = i)), .bl (decide (3 = i)), .bl (decide (4 = i)), .bl (decide (5 = i)), .bl (decide (6 = i)), .bl (decide (7 = i)), .bl (decide (8 = i)), .bl (decide (9 = i)), .bl (decide (10 = i)), .bl (decide (11 = i))]) := upd_same
  have m4 : H l4 = none := (e3.trans f4).free n4
  generalize upd (upd H3 p4 (.lst [.bl (decide (9 = i)), .bl (decide (10 = i)), .bl (decide (11 = i))])) l4 (.lst ([.bl (decide (0 = i)), .bl (decide (1 = i)), .bl (decide (2 = i)), .bl (decide (3 = i)), .bl (decide (4 = i)), .bl (decide (5 = i)), .bl (decide (6 = i)), .bl (decide (7 = i)), .bl (decide (8 = i))] ++ [.bl (decide (9 = i)), .bl (decide (10 = i)), .bl (decide (11 = i))])) = H4 at *
  refine ⟨.ref l4, rfl, .inl ⟨rfl, _, .inl (.inl h4)⟩, ⟨.ref a, rfl, _, _, _, rfl, fun _ r => r, Z.kit 12 (by decide), ⟨l4, _, _, rfl, rfl, h4, small1000 (by show 12 ≤ 1000; decide), ?_⟩⟩⟩
  have e5 : Ext Ps H (upd H4 l4 (.lst ([.bl (decide (0 = i)), .bl (decide (1 = i)), .bl (decide (2 = i)), .bl (decide (3 = i)), .bl (decide (4 = i)), .bl (decide (5 = i)), .bl (decide (6 = i)), .bl (decide (7 = i)), .bl (decide (8 = i)), .bl (decide (9 = i)), .bl (decide (10 = i)), .bl (decide (11 = i))] ++ [.bl (decide (12 = i))]))) := e4.write m4 h4 (fun q z => by cases z)
  have h5 : (upd H4 l4 (.lst ([.bl (decide (0 = i)), .bl (decide (1 = i)), .bl (decide (2 = i)), .bl (decide (3 = i)), .bl (decide (4 = i)), .bl (decide (5 = i)), .bl (decide (6 = i)), .bl (decide (7 = i)), .bl (decide (8 = i)), .bl (decide (9 = i)), .bl (decide (10 = i)), .bl (decide (11 = i))] ++ [.bl (decide (12 = i))]))) l4 = some (.lst ((boolsAt i).map V.bl)) := upd_same
  generalize upd H4 l4 (.lst ([.bl (decide (0 = i)), .bl (decide (1 = i)), .bl (decide (2 = i)), .bl (decide (3 = i)), .bl (decide (4 = i)), .bl (decide (5 = i)), .bl (decide (6 = i)), .bl (decide (7 = i)), .bl (decide (8 = i)), .bl (decide (9 = i)), .bl (decide (10 = i)), .bl (decide (11 = i))] ++ [.bl (decide (12 = i))])) = H5 at *
  -- one of them
  have hD : Dp X.K H5 (.ref l4) (.list ((boolsAt i).map PyData.bool)) := .lst (.inl (.inl h5)) (bools_dp _)
  obtain ⟨p1, p2, p3⟩ := bools_plain (boolsAt i)
  refine ⟨.ref a, rfl, _, _, true, rfl, fun u r => r, Z.ve, true, rfl, iteF ?_⟩
  refine ⟨.ref l4, rfl, .inl ⟨rfl, _, .inl (.inl h5)⟩, l4, .bl true, .bool true, _, rfl, rfl, hD, .bl true, p1, by simp [PyData.plain], by simp [PyData.depth], rfl, false, ?_, iteF ?_⟩
  · rw [bools_count i Z.lt]
    simp
  refine ⟨.ref a, rfl, _, _, _, rfl, fun _ r => r, Z.kit 12 (by decide), false, ?_, iteF ?_⟩
  · have := Z.lt
    rw [decide_eq_false (show ¬ 12 = i by omega)]
  -- the word
  refine ⟨Nat.le_of_lt (small1000 (by show 9 ≤ 1000; decide)), fun w1 nw1 => ⟨.ref w1, rfl, c3, fun w2 nw2 => ?_⟩⟩
  have e6 := Ext.new (o := .lst [.str "stack", .str "number", .str "part", .str "lot", .str "row", .str "order", .str "names", .str "rim", .str "taking"]) e5.tb nw1
  have e7 := Ext.new (o := .lst [.str "text", .str "line", .str "deed"]) e6.tb nw2
  refine ⟨w1, w2, _, _, rfl, rfl, e7.lst upd_same, upd_same, Nat.le_of_lt (small1000 (by show 9 + 3 ≤ 1000; decide)), fun w3 nw3 => ?_⟩
  have e8 := Ext.new (o := .lst ([.str "stack", .str "number", .str "part", .str "lot", .str "row", .str "order", .str "names", .str "rim", .str "taking"] ++ [.str "text", .str "line", .str "deed"])) e7.tb nw3
  have e58 := e6.trans (e7.trans e8)
  have sh : SeqAt.shaped (.list ((boolsAt i).map PyData.bool)) = true := by
    unfold SeqAt.shaped
    rw [PyData.canLay0, p2, PyData.depth, p3]
    rfl
  refine ⟨.ref l4, rfl, .inl ⟨rfl, _, .inl (.inl (e58.lst h5))⟩, l4, .bl true, .bool true, _, i, .bool (decide (i = i)), rfl, rfl, e58.dp hD, .bl true, sh, rfl, bools_at (by have := Z.lt; omega), by simp [PyData.eqv], fun m z' hm hz => ?_, ?_⟩
  · rw [bools_at (by have := Z.lt; omega)] at hz
    cases hz
    rw [decide_eq_false (by omega)]
    exact eqv_bools.2
  refine ⟨w3, _, (i : Int), .str (wordOf i), rfl, rfl, .inl (.inl upd_same), ?_, q _ (e5.trans e58)⟩
  refine atI_nat ?_
  have z : ∀ i : Nat, i < 12 → ((words.map V.str)[i]? = some (V.str (wordOf i))) := fun i hi => by
    rw [List.getElem?_map]
    unfold wordOf
    rw [List.getD_eq_getElem?_getD, List.getElem?_eq_getElem (show i < words.length from hi)]
    rfl
  exact z i Z.lt
end
end Lf

set_option maxHeartbeats 4000000
namespace Lf
open PySem PySem.Spec PyProof.Rows L2 GxR GxA SrT
section
variable {K : PySem.W.Frag} {mg : Str → Option Value} {C : Nat → Addr} {CL : Addr}
/-- what a call of _law_refused makes of the lambda's reading -/
def TRef (K : PySem.W.Frag) (C : Nat → Addr) (CL : Addr) (Ps : Tbs) : (XK → Hp → VK → Prop) → Hp → VK → Prop := fun tl H Q =>
  tl (fun cls d H' => d = none ∧ ∃ i D, cls = .ref D ∧ Kind K C CL i D ∧ Tb Ps H' ∧ ∀ H2, Ext Ps H' H2 → Q (.str (wordOf i)) H2) H (fun _ H' => Q (.str "told") H')
theorem refused_gives {X : Cx} {Ps : Tbs} {f c g cg : Addr} {fd : FuncData} {k : Nat} {q : Str} (DK : Def X.K X.mg "_law_kinds" sKinds ["_law_e"] f fd c) (G : Kinds X.mg C) (gL : X.mg "LayError" = some (.ref CL)) (mi : X.mg "isinstance" = none) (mv : X.mg "ValueError" = none) (hr : Room (k + 2) X.A) :
    LamX.GivesTo X ["_law_call", "_law_e"] "_law_refused" (defScope sRefused) g (.ref cg) (defBody sRefused) "_law_call" q (TRef X.K C CL Ps) := by
  intro fl d s H Q tl act hc h
  have nd : (["_law_call", "_law_e"] : List Str).Nodup := by decide +kernel
  refine ⟨_, pss_cons (ps_try_as (X := (cxOf C8.CX0 X.prog X.w X.K X.mg X.base ["_law_call", "_law_e"] "_law_refused" (defScope sRefused) g (.ref cg) X.A X.stack s H C8.E0).nox) (c := .ref CL) (i := 1)
      (tb := fun W D σ H => ∃ Ech : XK, (∀ cls d σ' H', Ech cls d H' → W cls d σ' H') ∧ σ[0]? = some (some (.ref fl)) ∧ H d = some (LamX.CodeO d q) ∧ tl Ech H (fun _ H' => D.nx σ H'))
      (ts := fun a cls dx D σ H => ∃ i D0, cls = .ref D0 ∧ dx = none ∧ Kind X.K C CL i D0 ∧ (σ.length = 2 → σ[1]? = some (some (.ref a))) ∧ Tb Ps H ∧ ∀ H', Ext Ps H H' → D.rt (.str (wordOf i)) H')
      (Wout := fun _ _ _ _ => False) rfl rfl nd rfl rfl ⟨rfl, by decide, .inl gL⟩ LamX.takes0 (fun W pn xe tk _ => ?_) (fun a oe cls dx pn hz hf => ?_)) (pss_one (ps_ret pe_str)), ?_⟩
  · refine ⟨fun pins s' σ H' D I h' => ?_⟩
    obtain ⟨Ech, hW, h1, h2, h3⟩ := h'
    exact (pss_one (ps_expr (act W pn xe Ech _ _ tk hW))).run pins s' σ H' D I ⟨h1, h2, h3⟩
  · refine ⟨fun pins s' σ H' D I h' => ?_⟩
    obtain ⟨i, D0, rfl, rfl, Z, hσ, ht, hq⟩ := h'
    have hr1 : Room (k + 1) (X.A.deeper (envOfC "_law_refused" (defScope sRefused) s.heap.objs.size g (.ref cg))) := Room.deeper (k := k + 1) hr _
    have hr2 : L2H.RoomH (k + 1) ((X.A.deeper (envOfC "_law_refused" (defScope sRefused) s.heap.objs.size g (.ref cg))).mark (some (.ref a))) := ⟨hr1.dp, hr1.un⟩
    exact (pss_one (ps_ret (pe_kinds (X := ((cxOf C8.CX0 X.prog X.w X.K X.mg X.base ["_law_call", "_law_e"] "_law_refused" (defScope sRefused) g (.ref cg) X.A X.stack s H C8.E0).nox).suite a ((a, oe) :: pn)) (Ps := Ps) DK G Z hz hf (.head _) hr2 (pa_cons (pv 1) pa_nil) mi mv))).run pins s' σ H' D I ⟨.ref a, hσ I.len, rfl, ht, hq⟩
  · refine ⟨fun cls dx H' => dx = none ∧ ∃ i D, cls = .ref D ∧ Kind X.K C CL i D ∧ Tb Ps H' ∧ ∀ H2, Ext Ps H' H2 → Q (.str (wordOf i)) H2, fun cls dx σ' H' hh => ?_, rfl, hc, h⟩
    obtain ⟨rfl, i, D0, rfl, Z, ht, hq⟩ := hh
    refine ⟨true, Z.lay, fun _ a na => ⟨i, D0, rfl, rfl, Z, fun hl => ?_, ht, hq⟩, fun z => nomatch z⟩
    rw [List.length_set] at hl
    rw [List.getElem?_set_self (by omega)]
end
end Lf

set_option maxHeartbeats 1000000
namespace Lf
open PySem PySem.Spec PyProof.Rows L2 GxR GxA SrT
section
variable {P : Program} {w : World} {K : PySem.W.Frag} {mg : Str → Option Value} {base : Heap} {Ps : Tbs} {H H' H0 : Hp} {k : Nat} {f c : Addr} {fd : FuncData}
theorem cut_ints (ns : List Int) (lo hi : Option Int) : ∃ ms : List Int, ms.Sublist ns ∧ cutV (ns.map V.int) lo hi = ms.map V.int := by
  refine ⟨(ns.drop (HT.sIx (ns.map V.int).length 0 lo)).take (HT.sIx (ns.map V.int).length (ns.map V.int).length hi - HT.sIx (ns.map V.int).length 0 lo), (List.take_sublist _ _).trans (List.drop_sublist _ _), ?_⟩
  unfold cutV
  rw [List.map_take, List.map_drop]
theorem Epn.ext {a : Addr} (e : Ext Ps H0 H) (n : H0 a = none) (p : Epn Ps a H H') : Ext Ps H0 H' := by
  refine ⟨p.tb, fun b o q nt => p.old b o (ne_of_none q n) (e.old b o q nt) nt, fun b o q => ?_⟩
  obtain ⟨o', q'⟩ := e.there b o q
  exact p.there b o' q'
def spLaw (K : PySem.W.Frag) (Ps : Tbs) : Sp := fun vs H Q _ => ∃ (a : Addr) (ns : List Int), vs = [.ref a] ∧ SqL K H a (ns.map V.int) ∧ ns.length ≤ 63 ∧ Tb Ps H ∧ ∀ H', Q (.bl true) H'
end
end Lf

set_option maxHeartbeats 2000000
namespace Lf
open PySem PySem.Spec PyProof.Rows L2 GxR GxA SrT
abbrev nWithout : List Str := ["stack", "point", "n", "k", "faces", "rest", "face"]
abbrev nPartsL : List Str := ["_law_stack_here", "_law_many", "_law_found", "_law_one", "_law_face"]
abbrev nLinkL : List Str := ["_law_stack_here", "_law_part", "_law_rest", "_law_face", "_law_point"]
/-! ### the mathematics -/
def withoutL (fss : List (List Int)) (p : Int) : List (List Int) := fss.filter fun f => !decide (p ∈ f)
theorem allF_le {n k : Nat} (h : n ≤ 8) : (allF n k).length ≤ 256 := by
  unfold allF
  rw [(sortL_perm _).length_eq]
  have h1 := allK_len n k
  have h2 : 2 ^ n ≤ 2 ^ 8 := Nat.pow_le_pow_right (by omega) h
  have h3 : ((allK n k).filter fun g => decide (g.length = k)).length ≤ (allK n k).length := List.length_filter_le _ _
  omega
theorem partsN_le {n m : Nat} {fss : List (List Int)} (h : n ≤ 8) : (partsN n fss m).length ≤ 256 := Nat.le_trans (List.length_filter_le _ _) (allF_le h)
def everyN (n k : Nat) (fss : List (List Int)) : List (List Int) := (List.range k).flatMap fun m => partsN n fss m
theorem everyN_succ (n k : Nat) (fss : List (List Int)) : everyN n (k + 1) fss = everyN n k fss ++ partsN n fss k := by
  unfold everyN
  rw [List.range_succ, List.flatMap_append]
  simp
theorem everyN_le {n k : Nat} {fss : List (List Int)} (h : n ≤ 8) : (everyN n k fss).length ≤ 256 * k := by
  induction k with
  | zero => simp [everyN]
  | succ k ih =>
    rw [everyN_succ, List.length_append]
    have := partsN_le (m := k) (fss := fss) h
    omega
theorem eqv_nil (gs : List (List Int)) : PyData.eqv (.list (gs.map tD)) (.list []) = gs.isEmpty := by
  cases gs with
  | nil => simp [PyData.eqv, PyData.eqvAll]
  | cons g gs => simp [PyData.eqv, PyData.eqvAll]
theorem inSome_filt (g : List Int) (fss : List (List Int)) : (!(fss.filter fun fc => hasAll fc g).isEmpty) = inSome g fss := by
  unfold inSome
  rw [Bool.eq_iff_iff, Bool.not_eq_true', List.any_eq_true, List.isEmpty_eq_false_iff_exists_mem]
  constructor
  · rintro ⟨f, hf⟩
    obtain ⟨h1, h2⟩ := List.mem_filter.mp hf
    exact ⟨f, h1, h2⟩
  · rintro ⟨f, h1, h2⟩
    exact ⟨f, List.mem_filter.mpr ⟨h1, h2⟩⟩
theorem StkOk.without {n k : Int} {fss : List (List Int)} {p : Int} (S : StkOk n k fss) (h : withoutL fss p ≠ []) : StkOk n k (withoutL fss p) := by
  have sub : (withoutL fss p).Sublist fss := List.filter_sublist
  refine ⟨S.n1, S.n8, S.k0, S.kn, S.k4, ?_, Nat.le_trans sub.length_le S.l70, fun f hf => S.len f (sub.subset hf), fun f hf => S.ris f (sub.subset hf), fun f hf => S.bel f (sub.subset hf), S.srt.sublist sub⟩
  cases e : withoutL fss p with
  | nil => exact absurd e h
  | cons _ _ => simp
theorem tupI_seqI {K : PySem.W.Frag} {H : Hp} {x : V} {ns : List Int} (h : TupI K H x ns) : SeqI K H x ns := let ⟨t, e, hs⟩ := h; ⟨t, e, .inr hs⟩
section
variable {P : Program} {w : World} {K : PySem.W.Frag} {mg : Str → Option Value} {base : Heap} {Ps : Tbs} {H H' H0 : Hp} {k : Nat} {f c : Addr} {fd : FuncData}
/-! ### without -/
def spWithout (K : PySem.W.Frag) (Ps : Tbs) (CN : Addr) : Sp := fun vs H Q E => ∃ (x : V) (n kk i : Int) (fss : List (List Int)), vs = [x, .int i] ∧ Stk K H x n kk fss ∧ StkOk n kk fss ∧ 0 ≤ i ∧ i < n ∧ Tb Ps H ∧
  (withoutL fss i ≠ [] → ∀ v H', Ext Ps H H' → Stk K H' v n kk (withoutL fss i) → Q v H') ∧ (withoutL fss i = [] → ∀ H', Ext Ps H H' → E (.ref CN) none H')
/-! ### _law_parts -/
def spPartsL (K : PySem.W.Frag) (Ps : Tbs) : Sp := fun vs H Q _ => ∃ (x : V) (n kk m : Int) (fss : List (List Int)), vs = [x, .int m] ∧ Stk K H x n kk fss ∧ StkOk n kk fss ∧ 0 ≤ m ∧ m ≤ kk ∧ Tb Ps H ∧
  ∀ (l : Addr) (ys : List V) (H' : Hp), Ext Ps H H' → H l = none → H' l = some (.lst ys) → Paired (TupI K H') ys (partsN n.toNat fss m.toNat) → Q (.ref l) H'
/-! ### _law_every_part -/
def spEvery (K : PySem.W.Frag) (Ps : Tbs) : Sp := fun vs H Q _ => ∃ (x : V) (n kk : Int) (fss : List (List Int)), vs = [x] ∧ Stk K H x n kk fss ∧ StkOk n kk fss ∧ Tb Ps H ∧
  ∀ (l : Addr) (ys : List V) (H' : Hp), Ext Ps H H' → H l = none → H' l = some (.lst ys) → Paired (TupI K H') ys (everyN n.toNat (kk.toNat + 1) fss) → Q (.ref l) H'
/-! ### _law_link -/
def spLinkL (K : PySem.W.Frag) (Ps : Tbs) : Sp := fun vs H Q _ => ∃ (x y : V) (n kk : Int) (fss : List (List Int)) (z : List Int), vs = [x, y] ∧ AskP K Ps H x y n kk fss z ∧ ∀ v H', Ext Ps H H' → Stk K H' v n (kk - z.length) (linkL fss z) → Q v H'
end
end Lf

set_option maxHeartbeats 2000000
namespace Lf
open PySem PySem.Spec PyProof.Rows L2 GxR GxA SrT
/-- raise x(e) -/
theorem ps_refuse1 {X : Cx} {x : Str} {C : Addr} {e : Expr} {ta : TE} {p pos pos' : Pos} {E : XK} (R : Ref X.K X.mg x C) (tk : Takes X fun cls d _ H => E cls d H) (he : PE X e ta) (hc : X.calm = true := by rfl) (hg : Gl X x := by rfl) (hs : starEach [e] X.env = (false, eval e X.env) :: starEach [] X.env := by rfl) (hdb : (x == ("__debug__" : Str)) = false := by decide) :
    PS X (.Raise (some (.Call (.Name x p) [e] [] pos)) none pos') (fun _ σ H => ta σ H fun _ H1 => E (.ref C) none H1) := by
  obtain ⟨B, nI, iI, bmB, F, q⟩ := R.ex
  exact ps_raise hc tk (SkE.pmk_own1 F q R.g R.kp (raises_own R.sub R.ty) hg he hs hdb)
theorem log_small {i : Int} (h : i.natAbs ≤ 1000) : i.natAbs.log2 < 11 := by
  by_cases e : i.natAbs = 0
  · rw [e]
    decide
  · exact (Nat.log2_lt e).mpr (by omega)
theorem text_small {i : Int} (h : i.natAbs ≤ 1000) : (Str.ofString (toString i)).length ≤ 12 := by
  rw [PySem.ofString_length]
  exact int_text_length_le (by decide) (log_small h)
section
variable {P : Program} {w : World} {K : PySem.W.Frag} {mg : Str → Option Value} {base : Heap} {Ps : Tbs} {H H' H0 : Hp} {k : Nat} {f c : Addr} {fd : FuncData} {CS CN CL CR CO CP : Addr}
/-! ### need_stack, need_within, need_face, need_lot, refusing -/
def spNeedStackX (K : PySem.W.Frag) (Ps : Tbs) (CS : Addr) : Sp := fun vs H _ E => ∃ (x : V) (d : PyData), vs = [x] ∧ Th K H x d ∧ wide d = true ∧ isStackD d = false ∧ Tb Ps H ∧ ∀ H', Ext Ps H H' → E (.ref CS) none H'
theorem ok_needStackX {fS cS : Addr} {fdS : FuncData} (D : Def K mg "need_stack" sNeedStack ["stack"] f fd c) (DS : Def K mg "is_stack" sIsStack ["thing"] fS fdS cS) (GS : FnOk P w K mg base CX0 k fS fdS ["thing"] (spIsStackX K Ps)) (RS : Ref K mg "NoStack" CS) : FnOk P w K mg base (L2.CX P w) (k + 1) f fd ["stack"] (spNeedStackX K Ps CS) := by
  refine D.okX (k := k) scNeedStack (fun vs H Q E h => ?_) (fun A outer s H vs Q E hr tk h => ?_)
  · obtain ⟨x, d, rfl, _⟩ := h
    rfl
  · obtain ⟨x, d, rfl, hx, hw, hd, ht, q⟩ := h
    refine ⟨_, pss_one (ps_if (pt_not (pt_val (pcl DS GS hr (pa_cons (pv 0) pa_nil)))) (pss_one (ps_refuse RS tk)) pss_nil), ?_⟩
    refine ⟨x, rfl, x, d, rfl, hx, hw, ht, fun H1 e1 => ⟨false, by rw [hd], iteT (q _ e1)⟩⟩
def spNeedWithinX (K : PySem.W.Frag) (CN : Addr) : Sp := fun vs H _ E => ∃ (x : V) (d : PyData) (lo hi : Int), vs = [x, .int lo, .int hi] ∧ Th K H x d ∧ intIn d lo hi = false ∧ lo.natAbs ≤ 1000 ∧ hi.natAbs ≤ 1000 ∧ E (.ref CN) none H
theorem ok_needWithinX {fW cW : Addr} {fdW : FuncData} (D : Def K mg "need_within" sNeedWithin ["number", "least", "most"] f fd c) (DW : Def K mg "is_within" sWithin ["thing", "least", "most"] fW fdW cW) (GW : FnOk P w K mg base CX0 k fW fdW ["thing", "least", "most"] (spWithinX K)) (RN : Ref K mg "NoNumber" CN) :
    FnOk P w K mg base (L2.CX P w) (k + 1) f fd ["number", "least", "most"] (spNeedWithinX K CN) := by
  refine D.okX (k := k) scNeedWithin (fun vs H Q E h => ?_) (fun A outer s H vs Q E hr tk h => ?_)
  · obtain ⟨x, d, lo, hi, rfl, _⟩ := h
    rfl
  · obtain ⟨x, d, lo, hi, rfl, hx, hd, b1, b2, q⟩ := h
    refine ⟨_, pss_one (ps_if (pt_not (pt_val (pcl DW GW hr (pa_cons (pv 0) (pa_cons (pv 1) (pa_cons (pv 2) pa_nil)))))) (pss_one (ps_refuse1 RN tk (pe_joined (.cons pe_str (.cons (pe_fmt (pv 1)) (.cons pe_str (.cons (pe_fmt (pv 2)) .nil))))))) pss_nil), ?_⟩
    refine ⟨x, rfl, .int lo, rfl, .int hi, rfl, x, d, lo, hi, rfl, hx, false, by rw [hd], iteT ?_⟩
    have t1 := text_small b1
    have t2 := text_small b2
    have sl := sizeLine_eq
    have l0 : (Str.empty ++ ("no whole number from " : Str)).length = 21 := by decide
    have l1 : (" to " : Str).length = 4 := by decide
    refine ⟨_, rfl, by rw [l0]; decide, .int lo, rfl, .inr ⟨lo, rfl, Nat.lt_of_lt_of_le (log_small b1) (by decide), _, rfl, ?_, _, rfl, ?_, .int hi, rfl, .inr ⟨hi, rfl, Nat.lt_of_lt_of_le (log_small b2) (by decide), _, rfl, ?_, q⟩⟩⟩
    · rw [Str.length_append, l0]
      omega
    · rw [Str.length_append, Str.length_append, l0, l1]
      omega
    · rw [Str.length_append, Str.length_append, Str.length_append, l0, l1]
      omega
def spNeedFaceX (K : PySem.W.Frag) (CN : Addr) : Sp := fun vs H _ E => ∃ (x y : V) (n kk : Int) (fss : List (List Int)) (d : PyData), vs = [x, y] ∧ Stk K H x n kk fss ∧ fss.length ≤ 70 ∧ Th K H y d ∧ intIn d 0 ((fss.length : Int) - 1) = false ∧ E (.ref CN) none H
theorem ok_needFaceX {fW cW : Addr} {fdW : FuncData} (D : Def K mg "need_face" sNeedFace ["stack", "number"] f fd c) (DW : Def K mg "need_within" sNeedWithin ["number", "least", "most"] fW fdW cW) (GW : FnOk P w K mg base (L2.CX P w) k fW fdW ["number", "least", "most"] (spNeedWithinX K CN))
    (ml : mg "len" = none) : FnOk P w K mg base (L2.CX P w) (k + 1) f fd ["stack", "number"] (spNeedFaceX K CN) := by
  refine D.okX (k := k) scNeedFace (fun vs H Q E h => ?_) (fun A outer s H vs Q E hr tk h => ?_)
  · obtain ⟨x, y, n, kk, fss, d, rfl, _⟩ := h
    rfl
  · obtain ⟨_, y, n, kk, fss, d, rfl, ⟨a, fa, xs, rfl, h1, h2, h3⟩, l70, hy, hd, q⟩ := h
    have hlen := Paired.length h3
    refine ⟨_, pss_one (ps_expr (pclX DW GW hr tk (pa_cons (pv 1) (pa_cons pe_int (pa_cons (pe_op op_sub (pe_callB (call_lenS (K := K) rfl) (by rfl) ml PySem.boot_len (pa_cons (pe_ix ix_tup (pv 0) pe_int (fun _ _ => rfl)) pa_nil)) pe_int) pa_nil))))), ?_⟩
    refine ⟨y, rfl, .ref a, rfl, a, _, 2, .ref fa, rfl, rfl, h1, at2, fa, xs, rfl, .inr h2, (xs.length : Int), 1, rfl, rfl, y, d, 0, (xs.length : Int) - 1, rfl, hy, by rw [hlen]; exact hd, by decide, by omega, q⟩
def spNeedLotX (K : PySem.W.Frag) (Ps : Tbs) (CL : Addr) : Sp := fun vs H _ E => ∃ (x y : V) (n kk : Int) (fss : List (List Int)) (d : PyData), vs = [x, y] ∧ Stk K H x n kk fss ∧ Th K H y d ∧ wide d = true ∧ risD d fss.length = false ∧ Tb Ps H ∧ ∀ H', Ext Ps H H' → E (.ref CL) none H'
theorem ok_needLotX {fR cR : Addr} {fdR : FuncData} (D : Def K mg "need_lot" sNeedLot ["stack", "lot"] f fd c) (DR : Def K mg "is_rising" sRising ["thing", "many"] fR fdR cR) (GR : FnOk P w K mg base CX0 k fR fdR ["thing", "many"] (spRisingX K Ps)) (RL : Ref K mg "NoLot" CL)
    (ml : mg "len" = none) : FnOk P w K mg base (L2.CX P w) (k + 1) f fd ["stack", "lot"] (spNeedLotX K Ps CL) := by
  refine D.okX (k := k) scNeedLot (fun vs H Q E h => ?_) (fun A outer s H vs Q E hr tk h => ?_)
  · obtain ⟨x, y, n, kk, fss, d, rfl, _⟩ := h
    rfl
  · obtain ⟨_, y, n, kk, fss, d, rfl, ⟨a, fa, xs, rfl, h1, h2, h3⟩, hy, hw, hd, ht, q⟩ := h
    have hlen := Paired.length h3
    refine ⟨_, pss_one (ps_if (pt_not (pt_val (pcl DR GR hr (pa_cons (pv 1) (pa_cons (pe_callB (call_lenS (K := K) rfl) (by rfl) ml PySem.boot_len (pa_cons (pe_ix ix_tup (pv 0) pe_int (fun _ _ => rfl)) pa_nil)) pa_nil))))) (pss_one (ps_refuse RL tk)) pss_nil), ?_⟩
    refine ⟨y, rfl, .ref a, rfl, a, _, 2, .ref fa, rfl, rfl, h1, at2, fa, xs, rfl, .inr h2, y, d, (xs.length : Int), rfl, hy, hw, ht, fun H1 e1 => ⟨false, by rw [hlen, hd], iteT (q _ e1)⟩⟩
end
end Lf

set_option maxHeartbeats 2000000
namespace Lf
open PySem PySem.Spec PyProof.Rows L2 GxR GxA SrT
theorem thAll_take {K : PySem.W.Frag} {H : Hp} {F : Addr → Prop} : ∀ {m : Nat} {ds : List PyData} {xs : List V}, ThAllF K H F xs ds → ThAllF K H F (xs.take m) (ds.take m)
  | 0, _, _, _ => by
    rw [List.take_zero, List.take_zero]
    exact .nil
  | m + 1, [], _, h => by cases h; exact .nil
  | m + 1, d :: ds, _, h => by
    cases h with
    | cons h1 h2 => exact .cons h1 (thAll_take h2)
theorem thAll_drop {K : PySem.W.Frag} {H : Hp} {F : Addr → Prop} : ∀ {m : Nat} {ds : List PyData} {xs : List V}, ThAllF K H F xs ds → ThAllF K H F (xs.drop m) (ds.drop m)
  | 0, _, _, h => h
  | m + 1, [], _, h => by cases h; exact .nil
  | m + 1, d :: ds, _, h => by
    cases h with
    | cons h1 h2 => exact thAll_drop (m := m) h2
/-- the cut of data -/
def cutD (ds : List PyData) (lo hi : Option Int) : List PyData := (ds.drop (HT.sIx ds.length 0 lo)).take (HT.sIx ds.length ds.length hi - HT.sIx ds.length 0 lo)
theorem thAll_cut {K : PySem.W.Frag} {H : Hp} {F : Addr → Prop} {ds : List PyData} {xs : List V} {lo hi : Option Int} (h : ThAllF K H F xs ds) : ThAllF K H F (cutV xs lo hi) (cutD ds lo hi) := by
  unfold cutV cutD
  rw [thAll_len h]
  exact thAll_take (thAll_drop h)
/-- ds[m:] -/
theorem cutD_from {ds : List PyData} {m : Nat} (h : m ≤ ds.length) : cutD ds (some (m : Int)) none = ds.drop m := by
  unfold cutD
  rw [HT.sIx_nat, HT.sIx_none, Nat.min_eq_left h, List.take_of_length_le]
  rw [List.length_drop]
  omega
/-- ds[:m] -/
theorem cutD_to {ds : List PyData} {m : Nat} (h : m ≤ ds.length) : cutD ds none (some (m : Int)) = ds.take m := by
  unfold cutD
  rw [HT.sIx_nat, HT.sIx_none, Nat.min_eq_left h, List.drop_zero, Nat.sub_zero]
section
variable {X : Cx} {Ps : Tbs} {F : Addr → Prop}
/-- t + u, two tuples of things -/
def rCatTh (K : PySem.W.Frag) (Ps : Tbs) : R2 := fun x y H Q => ∃ (F : Addr → Prop) (ds es : List PyData), ThF K H F x (.tuple ds) ∧ ThF K H F y (.tuple es) ∧ ds.length + es.length ≤ 1000 ∧ Tb Ps H ∧ ∀ v H3, Ext Ps H H3 → ThF K H3 F v (.tuple (ds ++ es)) → Q v H3
theorem op_catTh : OpR X (binaryOp .Add) (rCatTh X.K Ps) := by
  intro pins s σ H x y v u Q I rx ry h
  obtain ⟨F, ds, es, hx, hy, hl, ht, q⟩ := h
  cases hx with
  | @tup a xs _ ha hxa =>
  cases hy with
  | @tup b ys _ hb hyb =>
  have l1 := thAll_len hxa
  have l2 := thAll_len hyb
  refine op_catA pins s σ H _ _ v u Q I rx ry ⟨a, b, _, _, rfl, rfl, ha, hb, ?_, fun e => ?_, fun _ e => ?_, fun _ _ p np => ?_⟩
  · rw [sizeLine_eq]
    omega
  · subst e
    have e2 : ds = [] := List.length_eq_zero_iff.mp (by rw [← l1]; rfl)
    subst e2
    exact q _ _ (Ext.refl ht) (.tup hb hyb)
  · subst e
    have e2 : es = [] := List.length_eq_zero_iff.mp (by rw [← l2]; rfl)
    subst e2
    exact q _ _ (Ext.refl ht) (by rw [List.append_nil]; exact .tup ha hxa)
  · have e := Ext.new (o := .tup (xs ++ ys)) ht np
    exact q _ _ e (.tup (.inl (.inl upd_same)) (thAll_app (e.thAll hxa) (e.thAll hyb)))
/-- t[i:j] of a tuple of things -/
def rSlTh (K : PySem.W.Frag) (Ps : Tbs) : V → Option Int → Option Int → Hp → VK → Prop := fun x lo hi H Q => ∃ (F : Addr → Prop) (ds : List PyData), ThF K H F x (.tuple ds) ∧ Tb Ps H ∧ ∀ v H3, Ext Ps H H3 → ThF K H3 F v (.tuple (cutD ds lo hi)) → Q v H3
theorem sl_Th : SlR X (rSlTh X.K Ps) := by
  intro pins s σ H x v vl vu lo hi sl Q I rx hs pl pu h
  obtain ⟨F, ds, hx, ht, q⟩ := h
  cases hx with
  | @tup a xs _ ha hxa =>
  have l1 := thAll_len hxa
  refine sl_tupA pins s σ H _ v vl vu lo hi sl Q I rx hs pl pu ⟨a, _, rfl, ha, fun z => ?_, fun _ p np => ?_⟩
  · refine q _ _ (Ext.refl ht) ?_
    have e : cutD ds lo hi = ds := by
      rw [l1] at z
      unfold cutD
      rw [z.1, z.2, List.drop_zero, Nat.sub_zero, List.take_length]
    rw [e]
    exact .tup ha hxa
  · have e := Ext.new (o := .tup (cutV xs lo hi)) ht np
    exact q _ _ e (.tup (.inl (.inl upd_same)) (e.thAll (thAll_cut hxa)))
end
/-- a tuple just laid -/
theorem th_new {K : PySem.W.Frag} {H : Hp} {F : Addr → Prop} {p : Addr} {xs : List V} {ds : List PyData} {Ps : Tbs} (ht : Tb Ps H) (np : H p = none) (h : ThAllF K H F xs ds) : ThF K (upd H p (.tup xs)) F (.ref p) (.tuple ds) := .tup (.inl (.inl upd_same)) ((Ext.new (Ps := Ps) ht np).thAll h)
theorem th_newL {K : PySem.W.Frag} {H : Hp} {F : Addr → Prop} {p : Addr} {xs : List V} {ds : List PyData} {Ps : Tbs} (ht : Tb Ps H) (np : H p = none) (hF : F p) (h : ThAllF K H F xs ds) : ThF K (upd H p (.lst xs)) F (.ref p) (.list ds) := .lst hF (.inl (.inl upd_same)) ((Ext.new (Ps := Ps) ht np).thAll h)
/-- what follows a statement, by a name -/
theorem tseq_intro {t u : TS} {D : Ends} {σ : L2.St} {H : Hp} (h : ∀ R, R = u D → t { D with nx := R } σ H) : tSeq t u D σ H := h _ rfl
/-! ### the lists and dicts of a thing: new since H, standing in Y, such as S says -/
def FS (S : Addr → Prop) (H Y : Hp) : Addr → Prop := fun b => H b = none ∧ Y b ≠ none ∧ S b
section
variable {K : PySem.W.Frag} {Ps : Tbs} {H Y Y' : Hp} {S S' : Addr → Prop} {x : V} {d : PyData} {xs : List V} {ds : List PyData}
theorem fs_mono (e : Ext Ps Y Y') : ∀ b, FS S H Y b → FS S H Y' b := fun b h => ⟨h.1, fun z => h.2.1 (e.free z), h.2.2⟩
theorem Ext.thS (e : Ext Ps Y Y') (h : ThF K Y (FS S H Y) x d) : ThF K Y' (FS S H Y') x d := (e.th h).imp (fs_mono e)
theorem Ext.thAllS (e : Ext Ps Y Y') (h : ThAllF K Y (FS S H Y) xs ds) : ThAllF K Y' (FS S H Y') xs ds := (e.thAll h).imp (fs_mono e)
theorem fs_new {p : Addr} {o : HO} (z : H p = none) (hS : S p) : FS S H (upd Y p o) p := ⟨z, by rw [upd_same]; exact Option.some_ne_none _, hS⟩
theorem th_newS {p : Addr} (ht : Tb Ps Y) (np : Y p = none) (h : ThAllF K Y (FS S H Y) xs ds) : ThF K (upd Y p (.tup xs)) (FS S H (upd Y p (.tup xs))) (.ref p) (.tuple ds) := .tup (.inl (.inl upd_same)) ((Ext.new (Ps := Ps) ht np).thAllS h)
theorem th_newLS {p : Addr} (ht : Tb Ps Y) (np : Y p = none) (z : H p = none) (hS : S p) (h : ThAllF K Y (FS S H Y) xs ds) : ThF K (upd Y p (.lst xs)) (FS S H (upd Y p (.lst xs))) (.ref p) (.list ds) := .lst (fs_new z hS) (.inl (.inl upd_same)) ((Ext.new (Ps := Ps) ht np).thAllS h)
theorem th_newDS {p : Addr} (z : H p = none) (hS : S p) : ThF K (upd Y p (.dK [])) (FS S H (upd Y p (.dK []))) (.ref p) (.dict []) := .dic (fs_new z hS) upd_same
/-- a list is laid that none of them is -/
theorem thAll_hold {r : Addr} {o : HO} (ht : Tb Ps Y) (nr : Y r = none) (h : ThAllF K Y (FS S H Y) xs ds) : ThAllF K (upd Y r o) (FS (fun b => b ≠ r) H (upd Y r o)) xs ds :=
  ((Ext.new (Ps := Ps) (o := o) ht nr).thAll h).imp fun b hb => ⟨hb.1, fun z => hb.2.1 ((Ext.new (Ps := Ps) (o := o) ht nr).free z), fun z => hb.2.1 (by rw [z]; exact nr)⟩
theorem th_hold {r : Addr} {o : HO} (ht : Tb Ps Y) (nr : Y r = none) (h : ThF K Y (FS S H Y) x d) : ThF K (upd Y r o) (FS (fun b => b ≠ r) H (upd Y r o)) x d :=
  ((Ext.new (Ps := Ps) (o := o) ht nr).th h).imp fun b hb => ⟨hb.1, fun z => hb.2.1 ((Ext.new (Ps := Ps) (o := o) ht nr).free z), fun z => hb.2.1 (by rw [z]; exact nr)⟩
theorem fs_put {r : Addr} {l l' : List V} (hr : Y r = some (.lst l)) : ∀ b, FS S H Y b → FS S H (upd Y r (.lst l')) b := fun b h => ⟨h.1, fun z => by
  by_cases e : b = r
  · rw [e, upd_same] at z
    cases z
  · rw [upd_ne e] at z
    exact h.2.1 z, h.2.2⟩
theorem thAll_put {r : Addr} {l l' : List V} (hr : Y r = some (.lst l)) (h : ThAllF K Y (FS (fun b => b ≠ r) H Y) xs ds) : ThAllF K (upd Y r (.lst l')) (FS (fun b => b ≠ r) H (upd Y r (.lst l'))) xs ds := (ThAllF.put hr (fun a ha => ha.2.2) h).imp (fs_put hr)
theorem th_put {r : Addr} {l l' : List V} (hr : Y r = some (.lst l)) (h : ThF K Y (FS (fun b => b ≠ r) H Y) x d) : ThF K (upd Y r (.lst l')) (FS (fun b => b ≠ r) H (upd Y r (.lst l'))) x d := (ThF.put hr (fun a ha => ha.2.2) h).imp (fs_put hr)
theorem sqT_put {r t : Addr} {l l' ys : List V} (hr : Y r = some (.lst l)) (h : SqT K Y t ys) : SqT K (upd Y r (.lst l')) t ys := by
  rcases h with (h | ⟨o, h⟩) | h
  · exact .inl (.inl (by rw [upd_ne (ne_of h hr (by intro z; cases z))]; exact h))
  · exact .inl (.inr ⟨o, by rw [upd_ne (ne_of h hr (by intro z; cases z))]; exact h⟩)
  · exact .inr h
theorem stk_put {r : Addr} {l l' : List V} {v : V} {n k : Int} {fss : List (List Int)} (hr : Y r = some (.lst l)) (h : Stk K Y v n k fss) : Stk K (upd Y r (.lst l')) v n k fss :=
  let ⟨a, fa, zs, h1, h2, h3, h4⟩ := h
  ⟨a, fa, zs, h1, sqT_put hr h2, sqT_put hr h3, L2.Paired.mapP h4 fun _ _ z => tupI_put hr z⟩
end
/-- no stack -/
theorem bad_of {d : PyData} (h : ∀ n k fss, d = stkD n k fss → StkOk n k fss → False) : isStackD d = false := by
  cases e : isStackD d with
  | false => rfl
  | true =>
    obtain ⟨n, k, fss, e1, e2⟩ := isStackD_iff.mp e
    exact (h n k fss e1 e2).elim
theorem tD_inj {f g : List Int} (h : tD f = tD g) : f = g := by
  have := congrArg intsOf h
  rwa [intsOf_tD, intsOf_tD] at this
theorem tDs_inj {f g : List (List Int)} (h : f.map tD = g.map tD) : f = g := by
  have := congrArg (List.map intsOf) h
  rwa [map_ints, map_ints] at this
end Lf

set_option maxHeartbeats 2000000
namespace Lf
open PySem PySem.Spec PyProof.Rows L2 GxR GxA SrT EnT
/-! ### rows and orders of any thing -/
def RowD (d : PyData) (m : Nat) : Prop := ∃ ns : List Int, d = tD ns ∧ ns.Perm (rng m)
def OrdD (d : PyData) (fss : List (List Int)) : Prop := ∃ ns : List Int, d = tD ns ∧ isOrd fss ns
theorem OrdD.row {d : PyData} {fss : List (List Int)} (h : OrdD d fss) : RowD d fss.length := let ⟨ns, e, h1, _⟩ := h; ⟨ns, e, h1⟩
theorem th_tupI {K : PySem.W.Frag} {H : Hp} {F : Addr → Prop} {x : V} {ns : List Int} (h : ThF K H F x (tD ns)) : TupI K H x ns := by
  cases h with
  | @tup a xs _ hs ha =>
    obtain ⟨ms, e3, e4⟩ := th_asInts ha fun d hd => by
      obtain ⟨i, _, rfl⟩ := List.mem_map.mp hd
      exact ⟨i, rfl⟩
    have e5 : ns = ms := List.map_inj_right (fun a b h => by cases h; rfl) |>.mp (show ns.map PyData.int = ms.map PyData.int from e4)
    subst e5
    rw [e3] at hs
    exact ⟨_, rfl, hs⟩
theorem row_bel {ns : List Int} {m : Nat} (h : ns.Perm (rng m)) : ∀ i ∈ ns, 0 ≤ i ∧ i < (m : Int) := by
  intro i hi
  have z := h.mem_iff.mp hi
  unfold rng at z
  obtain ⟨j, hj, rfl⟩ := List.mem_map.mp z
  have := List.mem_range.mp hj
  omega
theorem row_len {ns : List Int} {m : Nat} (h : ns.Perm (rng m)) : ns.length = m := by
  rw [h.length_eq]
  unfold rng
  rw [List.length_map, List.length_range]
section
variable {P : Program} {w : World} {K : PySem.W.Frag} {mg : Str → Option Value} {base : Heap} {Ps : Tbs} {H H' H0 : Hp} {k : Nat} {f c : Addr} {fd : FuncData} {CS CN CL CR CO CP : Addr}
/-- a stack and any thing -/
structure AskX (K : PySem.W.Frag) (Ps : Tbs) (H : Hp) (x y : V) (n k : Int) (fss : List (List Int)) (d : PyData) : Prop where
  stk : Stk K H x n k fss
  ok : StkOk n k fss
  th : Th K H y d
  wd : wide d = true
  tb : Tb Ps H
theorem AskX.ext {x y : V} {n k : Int} {fss : List (List Int)} {d : PyData} (h : AskX K Ps H x y n k fss d) (e : Ext Ps H H') : AskX K Ps H' x y n k fss d := ⟨e.stk h.stk, h.ok, e.th h.th, h.wd, e.tb⟩
theorem AskX.row {x y : V} {n k : Int} {fss : List (List Int)} {ns : List Int} (h : AskX K Ps H x y n k fss (tD ns)) (hp : ns.Perm (rng fss.length)) : AskR K Ps H x y n k fss ns :=
  ⟨h.stk, h.ok, th_tupI h.th, row_bel hp, by rw [row_len hp]; have := h.ok.l70; omega, h.tb⟩
def spIsRowX (K : PySem.W.Frag) (Ps : Tbs) : Sp := fun vs H Q _ => ∃ (x y : V) (n kk : Int) (fss : List (List Int)) (d : PyData), vs = [x, y] ∧ AskX K Ps H x y n kk fss d ∧ ∀ b H', (b = true ↔ RowD d fss.length) → Ext Ps H H' → Q (.bl b) H'
def spEachX (K : PySem.W.Frag) (Ps : Tbs) : Sp := fun vs H Q _ => ∃ (y : V) (m : Nat) (d : PyData), vs = [y, .int m] ∧ Th K H y d ∧ m ≤ 1000 ∧ Tb Ps H ∧ ∀ b H', (b = true ↔ RowD d m) → Ext Ps H H' → Q (.bl b) H'
/-! ### what refuses: no stack, and then -/
def BadS (K : PySem.W.Frag) (Ps : Tbs) (CS : Addr) (x : V) (H : Hp) (E : XK) : Prop := ∃ d, Th K H x d ∧ wide d = true ∧ isStackD d = false ∧ Tb Ps H ∧ ∀ H', Ext Ps H H' → E (.ref CS) none H'
/-- need_stack, both ways -/
def spNeedStack2 (K : PySem.W.Frag) (Ps : Tbs) (CS : Addr) : Sp := fun vs H Q E => spNeedStack K Ps vs H Q E ∨ spNeedStackX K Ps CS vs H Q E
def spIsOrderX (K : PySem.W.Frag) (Ps : Tbs) (CS : Addr) : Sp := fun vs H Q E => ∃ (x y : V), vs = [x, y] ∧ (BadS K Ps CS x H E ∨ ∃ (n kk : Int) (fss : List (List Int)) (d : PyData), AskX K Ps H x y n kk fss d ∧ ∀ b H', (b = true ↔ OrdD d fss) → Ext Ps H H' → Q (.bl b) H')
/-- need_order of any thing -/
def spNeedOrderX (K : PySem.W.Frag) (Ps : Tbs) (CO : Addr) : Sp := fun vs H Q E => ∃ (x y : V) (n kk : Int) (fss : List (List Int)) (d : PyData), vs = [x, y] ∧ AskX K Ps H x y n kk fss d ∧ ∀ H', Ext Ps H H' → (OrdD d fss → Q .non H') ∧ (¬ OrdD d fss → E (.ref CO) none H')
/-! ### first_wrong, brings, refusing -/
def spFirstWrongX (K : PySem.W.Frag) (Ps : Tbs) (CS CR : Addr) : Sp := fun vs H Q E => ∃ (x y : V), vs = [x, y] ∧ (BadS K Ps CS x H E ∨ ∃ (n kk : Int) (fss : List (List Int)) (d : PyData), AskX K Ps H x y n kk fss d ∧ ¬ RowD d fss.length ∧ ∀ H', Ext Ps H H' → E (.ref CR) none H')
def spBringsX (K : PySem.W.Frag) (Ps : Tbs) (CS CO : Addr) : Sp := fun vs H Q E => ∃ (x y : V), vs = [x, y] ∧ (BadS K Ps CS x H E ∨ ∃ (n kk : Int) (fss : List (List Int)) (d : PyData), AskX K Ps H x y n kk fss d ∧ ¬ OrdD d fss ∧ ∀ H', Ext Ps H H' → E (.ref CO) none H')
/-! ### may_lay, brought, new_parts, refusing -/
/-- why a lot and a number are refused -/
def BadL (K : PySem.W.Frag) (Ps : Tbs) (CS CL CN : Addr) (x y z : V) (H : Hp) (E : XK) : Prop :=
  BadS K Ps CS x H E ∨ (∃ (n kk : Int) (fss : List (List Int)) (d : PyData), AskX K Ps H x y n kk fss d ∧ risD d fss.length = false ∧ ∀ H', Ext Ps H H' → E (.ref CL) none H') ∨
  (∃ (n kk : Int) (fss : List (List Int)) (d : PyData) (ns : List Int), AskX K Ps H x z n kk fss d ∧ TupI K H y ns ∧ LotOk fss.length ns ∧ intIn d 0 ((fss.length : Int) - 1) = false ∧ ∀ H', Ext Ps H H' → E (.ref CN) none H')
def spLotX (K : PySem.W.Frag) (Ps : Tbs) (CS CL CN : Addr) : Sp := fun vs H Q E => ∃ (x y z : V), vs = [x, y, z] ∧ BadL K Ps CS CL CN x y z H E
def spNeedLot2 (K : PySem.W.Frag) (Ps : Tbs) (CL : Addr) : Sp := fun vs H Q E => spNeedLot K Ps vs H Q E ∨ spNeedLotX K Ps CL vs H Q E
theorem ok_besideX {fF cF : Addr} {fdF : FuncData} (D : Def K mg "need_face_beside" sBeside ["stack", "lot", "number"] f fd c) (DF : Def K mg "need_face" sNeedFace ["stack", "number"] fF fdF cF) (GF : FnOk P w K mg base (L2.CX P w) k fF fdF ["stack", "number"] (spNeedFaceX K CN)) :
    FnOk P w K mg base (L2.CX P w) (k + 1) f fd ["stack", "lot", "number"] (fun vs H Q E => ∃ x y z, vs = [x, y, z] ∧ spNeedFaceX K CN [x, z] H Q E) := by
  refine D.okX (k := k) scBeside (fun vs H Q E h => ?_) (fun A outer s H vs Q E hr tk h => ?_)
  · obtain ⟨x, y, z, rfl, _⟩ := h
    rfl
  · obtain ⟨x, y, z, rfl, h⟩ := h
    refine ⟨_, pss_cons (ps_expr (pclX DF GF hr tk (pa_cons (pv 0) (pa_cons (pv 2) pa_nil)))) (pss_one ps_never), ?_⟩
    obtain ⟨x', y', n, kk, fss, d, e, r⟩ := h
    cases e
    exact ⟨x, rfl, z, rfl, x, z, n, kk, fss, d, rfl, r⟩
variable {fS cS fL cL fF cF : Addr} {fdS fdL fdF : FuncData}
theorem ok_mayLayX (D : Def K mg "may_lay" sMayLay ["stack", "lot", "number"] f fd c) (DS : Def K mg "need_stack" sNeedStack ["stack"] fS fdS cS) (GS : FnOk P w K mg base (L2.CX P w) k fS fdS ["stack"] (spNeedStack2 K Ps CS)) (DL : Def K mg "need_lot" sNeedLot ["stack", "lot"] fL fdL cL) (GL : FnOk P w K mg base (L2.CX P w) k fL fdL ["stack", "lot"] (spNeedLot2 K Ps CL))
    (DF : Def K mg "need_face" sNeedFace ["stack", "number"] fF fdF cF) (GF : FnOk P w K mg base (L2.CX P w) k fF fdF ["stack", "number"] (spNeedFaceX K CN)) : FnOk P w K mg base (L2.CX P w) (k + 1) f fd ["stack", "lot", "number"] (spLotX K Ps CS CL CN) := by
  refine D.okX (k := k) scMayLay (fun vs H Q E h => ?_) (fun A outer s H vs Q E hr tk h => ?_)
  · obtain ⟨x, y, z, rfl, _⟩ := h
    rfl
  · obtain ⟨x, y, z, rfl, h⟩ := h
    refine ⟨_, pss_cons (ps_expr (pclX DS GS hr tk (pa_cons (pv 0) pa_nil))) (pss_cons (ps_expr (pclX DL GL hr tk (pa_cons (pv 0) (pa_cons (pv 1) pa_nil)))) (pss_cons (ps_expr (pclX DF GF hr tk (pa_cons (pv 0) (pa_cons (pv 2) pa_nil)))) (pss_one ps_never))), ?_⟩
    rcases h with ⟨d, b1, b2, b3, b4, q⟩ | ⟨n, kk, fss, d, h0, hn, q⟩ | ⟨n, kk, fss, d, ns, h0, hy, hl, hn, q⟩
    · exact ⟨x, rfl, .inr ⟨x, d, rfl, b1, b2, b3, b4, q⟩⟩
    · refine ⟨x, rfl, .inl ⟨x, n, kk, fss, rfl, h0.stk, h0.ok, h0.tb, fun H1 e1 => ?_⟩⟩
      have a1 := h0.ext e1
      exact ⟨x, rfl, y, rfl, .inr ⟨x, y, n, kk, fss, d, rfl, a1.stk, a1.th, a1.wd, hn, a1.tb, fun H2 e2 => q _ (e1.trans e2)⟩⟩
    · refine ⟨x, rfl, .inl ⟨x, n, kk, fss, rfl, h0.stk, h0.ok, h0.tb, fun H1 e1 => ?_⟩⟩
      have a1 := h0.ext e1
      refine ⟨x, rfl, y, rfl, .inl ⟨x, y, n, kk, fss, ns, rfl, a1.stk, e1.tupI hy, hl, a1.tb, fun H2 e2 => ?_⟩⟩
      have a2 := a1.ext e2
      exact ⟨x, rfl, z, rfl, x, z, n, kk, fss, d, rfl, a2.stk, a2.ok.l70, a2.th, hn, q _ (e1.trans e2)⟩
theorem ok_broughtX (D : Def K mg "brought" sBrought ["stack", "lot", "number"] f fd c) (DS : Def K mg "need_stack" sNeedStack ["stack"] fS fdS cS) (GS : FnOk P w K mg base (L2.CX P w) k fS fdS ["stack"] (spNeedStack2 K Ps CS)) (DL : Def K mg "need_lot" sNeedLot ["stack", "lot"] fL fdL cL) (GL : FnOk P w K mg base (L2.CX P w) k fL fdL ["stack", "lot"] (spNeedLot2 K Ps CL))
    (DF : Def K mg "need_face_beside" sBeside ["stack", "lot", "number"] fF fdF cF) (GF : FnOk P w K mg base (L2.CX P w) k fF fdF ["stack", "lot", "number"] (fun vs H Q E => ∃ x y z, vs = [x, y, z] ∧ spNeedFaceX K CN [x, z] H Q E)) : FnOk P w K mg base (L2.CX P w) (k + 1) f fd ["stack", "lot", "number"] (spLotX K Ps CS CL CN) := by
  refine D.okX (k := k) scBrought (fun vs H Q E h => ?_) (fun A outer s H vs Q E hr tk h => ?_)
  · obtain ⟨x, y, z, rfl, _⟩ := h
    rfl
  · obtain ⟨x, y, z, rfl, h⟩ := h
    refine ⟨_, pss_cons (ps_expr (pclX DS GS hr tk (pa_cons (pv 0) pa_nil))) (pss_cons (ps_expr (pclX DL GL hr tk (pa_cons (pv 0) (pa_cons (pv 1) pa_nil)))) (pss_cons (ps_expr (pclX DF GF hr tk (pa_cons (pv 0) (pa_cons (pv 1) (pa_cons (pv 2) pa_nil))))) (pss_one ps_never))), ?_⟩
    rcases h with ⟨d, b1, b2, b3, b4, q⟩ | ⟨n, kk, fss, d, h0, hn, q⟩ | ⟨n, kk, fss, d, ns, h0, hy, hl, hn, q⟩
    · exact ⟨x, rfl, .inr ⟨x, d, rfl, b1, b2, b3, b4, q⟩⟩
    · refine ⟨x, rfl, .inl ⟨x, n, kk, fss, rfl, h0.stk, h0.ok, h0.tb, fun H1 e1 => ?_⟩⟩
      have a1 := h0.ext e1
      exact ⟨x, rfl, y, rfl, .inr ⟨x, y, n, kk, fss, d, rfl, a1.stk, a1.th, a1.wd, hn, a1.tb, fun H2 e2 => q _ (e1.trans e2)⟩⟩
    · refine ⟨x, rfl, .inl ⟨x, n, kk, fss, rfl, h0.stk, h0.ok, h0.tb, fun H1 e1 => ?_⟩⟩
      have a1 := h0.ext e1
      refine ⟨x, rfl, y, rfl, .inl ⟨x, y, n, kk, fss, ns, rfl, a1.stk, e1.tupI hy, hl, a1.tb, fun H2 e2 => ?_⟩⟩
      have a2 := a1.ext e2
      exact ⟨x, rfl, y, rfl, z, rfl, x, y, z, rfl, x, z, n, kk, fss, d, rfl, a2.stk, a2.ok.l70, a2.th, hn, q _ (e1.trans e2)⟩
theorem ok_newPartsX (D : Def K mg "new_parts" sNewParts ["stack", "lot", "number"] f fd c) (DS : Def K mg "need_stack" sNeedStack ["stack"] fS fdS cS) (GS : FnOk P w K mg base (L2.CX P w) k fS fdS ["stack"] (spNeedStack2 K Ps CS)) (DL : Def K mg "need_lot" sNeedLot ["stack", "lot"] fL fdL cL) (GL : FnOk P w K mg base (L2.CX P w) k fL fdL ["stack", "lot"] (spNeedLot2 K Ps CL))
    (DF : Def K mg "need_face_beside" sBeside ["stack", "lot", "number"] fF fdF cF) (GF : FnOk P w K mg base (L2.CX P w) k fF fdF ["stack", "lot", "number"] (fun vs H Q E => ∃ x y z, vs = [x, y, z] ∧ spNeedFaceX K CN [x, z] H Q E)) : FnOk P w K mg base (L2.CX P w) (k + 1) f fd ["stack", "lot", "number"] (spLotX K Ps CS CL CN) := by
  refine D.okX (k := k) scNewParts (fun vs H Q E h => ?_) (fun A outer s H vs Q E hr tk h => ?_)
  · obtain ⟨x, y, z, rfl, _⟩ := h
    rfl
  · obtain ⟨x, y, z, rfl, h⟩ := h
    refine ⟨_, pss_cons (ps_expr (pclX DS GS hr tk (pa_cons (pv 0) pa_nil))) (pss_cons (ps_expr (pclX DL GL hr tk (pa_cons (pv 0) (pa_cons (pv 1) pa_nil)))) (pss_cons (ps_expr (pclX DF GF hr tk (pa_cons (pv 0) (pa_cons (pv 1) (pa_cons (pv 2) pa_nil))))) (pss_cons ps_never (pss_one ps_never)))), ?_⟩
    rcases h with ⟨d, b1, b2, b3, b4, q⟩ | ⟨n, kk, fss, d, h0, hn, q⟩ | ⟨n, kk, fss, d, ns, h0, hy, hl, hn, q⟩
    · exact ⟨x, rfl, .inr ⟨x, d, rfl, b1, b2, b3, b4, q⟩⟩
    · refine ⟨x, rfl, .inl ⟨x, n, kk, fss, rfl, h0.stk, h0.ok, h0.tb, fun H1 e1 => ?_⟩⟩
      have a1 := h0.ext e1
      exact ⟨x, rfl, y, rfl, .inr ⟨x, y, n, kk, fss, d, rfl, a1.stk, a1.th, a1.wd, hn, a1.tb, fun H2 e2 => q _ (e1.trans e2)⟩⟩
    · refine ⟨x, rfl, .inl ⟨x, n, kk, fss, rfl, h0.stk, h0.ok, h0.tb, fun H1 e1 => ?_⟩⟩
      have a1 := h0.ext e1
      refine ⟨x, rfl, y, rfl, .inl ⟨x, y, n, kk, fss, ns, rfl, a1.stk, e1.tupI hy, hl, a1.tb, fun H2 e2 => ?_⟩⟩
      have a2 := a1.ext e2
      exact ⟨x, rfl, y, rfl, z, rfl, x, y, z, rfl, x, z, n, kk, fss, d, rfl, a2.stk, a2.ok.l70, a2.th, hn, q _ (e1.trans e2)⟩
end
end Lf

set_option maxHeartbeats 2000000
namespace Lf
open PySem PySem.Spec PyProof.Rows L2 GxR GxA SrT
abbrev sBroughtL : Stmt := topS 55
theorem scBroughtL : FnScope ["_law_faces", "_law_face", "_law_found", "_law_point", "_law_rest", "_law_other", "_law_one"] ["_law_faces", "_law_face"] (defScope sBroughtL) := ⟨rfl, rfl, rfl, by decide +kernel, rfl, by decide +kernel, by decide +kernel⟩
def isIntD : PyData → Bool
  | .int _ => true
  | _ => false
theorem ints_of_all : ∀ {ds : List PyData}, ds.all isIntD = true → ∃ ns : List Int, ds = iD ns
  | [], _ => ⟨[], rfl⟩
  | d :: ds, h => by
    rw [List.all_cons, Bool.and_eq_true] at h
    obtain ⟨ns, e⟩ := ints_of_all h.2
    cases d with
    | int i => exact ⟨i :: ns, by rw [e]; rfl⟩
    | _ => cases h.1
section
variable {P : Program} {w : World} {K : PySem.W.Frag} {mg : Str → Option Value} {base : Heap} {Ps : Tbs} {H H' H0 : Hp} {k : Nat} {f c : Addr} {fd : FuncData}
/-! ### _law_whole -/
def spWhole (K : PySem.W.Frag) : Sp := fun vs H Q _ => ∃ (x : V) (d : PyData), vs = [x] ∧ Th K H x d ∧ Q (.bl (isIntD d)) H
/-! ### _law_is_row -/
end
end Lf

set_option maxHeartbeats 1000000
namespace Lf
open PySem PySem.Spec PyProof.Rows L2 GxR GxA SrT
section
variable {X : Cx} {Ps : Tbs}
/-- t + u, two tuples of ints: some tuple of both -/
def rCatI (K : PySem.W.Frag) (Ps : Tbs) : R2 := fun x y H Q => ∃ us vs : List Int, TupI K H x us ∧ TupI K H y vs ∧ us.length + vs.length ≤ 1000 ∧ Tb Ps H ∧ ∀ v H3, Ext Ps H H3 → TupI K H3 v (us ++ vs) → Q v H3
theorem op_catI : OpR X (binaryOp .Add) (rCatI X.K Ps) := by
  intro pins s σ H x y v u Q I rx ry h
  obtain ⟨us, vs, ⟨a, rfl, ha⟩, ⟨b, rfl, hb⟩, hl, ht, q⟩ := h
  refine op_catA pins s σ H _ _ v u Q I rx ry ⟨a, b, _, _, rfl, rfl, ha, hb, ?_, fun e => ?_, fun _ e => ?_, fun _ _ p np => ?_⟩
  · rw [List.length_map, List.length_map, sizeLine_eq]
    omega
  · have e1 : us = [] := List.map_eq_nil_iff.mp e
    subst e1
    exact q _ _ (Ext.refl ht) ⟨b, rfl, hb⟩
  · have e1 : vs = [] := List.map_eq_nil_iff.mp e
    subst e1
    exact q _ _ (Ext.refl ht) ⟨a, rfl, by rw [List.append_nil]; exact ha⟩
  · exact q _ _ (Ext.new ht np) ⟨p, rfl, .inl (.inl (by rw [List.map_append]; exact upd_same))⟩
/-- t[:i], t[i:]: some tuple of those -/
def rSlI (K : PySem.W.Frag) (Ps : Tbs) : V → Option Int → Option Int → Hp → VK → Prop := fun x lo hi H Q => ∃ us ws : List Int, TupI K H x us ∧ Tb Ps H ∧ cutV (us.map V.int) lo hi = ws.map V.int ∧ ∀ v H3, Ext Ps H H3 → TupI K H3 v ws → Q v H3
theorem sl_tupI : SlR X (rSlI X.K Ps) := by
  intro pins s σ H x v vl vu lo hi sl Q I rx hs pl pu h
  obtain ⟨us, ws, ⟨a, rfl, ha⟩, ht, hw, q⟩ := h
  refine sl_tupA pins s σ H _ v vl vu lo hi sl Q I rx hs pl pu ⟨a, _, rfl, ha, fun z => ?_, fun _ p np => ?_⟩
  · refine q _ _ (Ext.refl ht) ⟨a, rfl, ?_⟩
    have e : cutV (us.map V.int) lo hi = us.map V.int := by
      unfold cutV
      rw [z.1, z.2, List.drop_zero, Nat.sub_zero, List.take_length]
    rw [← hw, e]
    exact ha
  · exact q _ _ (Ext.new ht np) ⟨p, rfl, .inl (.inl (by rw [← hw]; exact upd_same))⟩
end
end Lf

set_option maxHeartbeats 2000000
namespace Lf
open PySem PySem.Spec PyProof.Rows L2 GxR GxA SrT
theorem facesAt_take (fss : List (List Int)) (ns : List Int) (i : Nat) : facesAt fss (ns.take i) = (facesAt fss ns).take i := by
  unfold facesAt
  rw [List.map_take]
theorem cut_intsT {ns : List Int} {i : Nat} (h : i ≤ ns.length) : cutV (ns.map V.int) none (some (i : Int)) = (ns.take i).map V.int := by
  rw [cut_take (by rw [List.length_map]; exact h), List.map_take]
section
variable {P : Program} {w : World} {K : PySem.W.Frag} {mg : Str → Option Value} {base : Heap} {Ps : Tbs} {H H' H0 : Hp} {k : Nat} {f c : Addr} {fd : FuncData}
/-! ### _law_at of a tuple -/
def spAtT (K : PySem.W.Frag) (Ps : Tbs) : Sp := fun vs H Q _ => ∃ (x y : V) (n k : Int) (fss : List (List Int)) (ns : List Int), vs = [x, y] ∧ Stk K H x n k fss ∧ TupI K H y ns ∧ (∀ i ∈ ns, 0 ≤ i ∧ i < (fss.length : Int)) ∧ ns.length ≤ 100 ∧ Tb Ps H ∧
  ∀ l ys H', Ext Ps H H' → H l = none → H' l = some (.lst ys) → Paired (TupI K H') ys (facesAt fss ns) → Q (.ref l) H'
theorem ok_atT (D : Def K mg "_law_at" sAt ["_law_stack_here", "_law_numbers"] f fd c) : FnOk P w K mg base CX0 (k + 1) f fd ["_law_stack_here", "_law_numbers"] (spAtT K Ps) := by
  refine D.ok (k := k) scAt (fun vs H Q E h => ?_) (fun A outer s H vs Q E hr h => ?_)
  · obtain ⟨x, y, n, kk, fss, ns, rfl, _⟩ := h
    rfl
  · obtain ⟨_, _, n, kk, fss, ns, rfl, ⟨a, fa, xs, rfl, h1, h2, h3⟩, ⟨b, rfl, hB⟩, hb, hl, ht, q⟩ := h
    refine ⟨_, pss_one (ps_ret (pe_lc (own := [("_law_number", 2)]) (g := gName 2) (by rfl) scAt.nd (pi_tup (pv 1)) (blkOk_by (N := ["_law_stack_here", "_law_numbers", "_law_number"]) (sc := defScope sAt) (by decide +kernel))
      (fun _ _ _ _ _ => pg_name (i := 2) scAt.nd rfl (Or.inl rfl)) (fun _ _ _ _ _ => pts_nil) (fun _ _ _ _ _ => pe_ix (show IxR _ (rIxT K) from ix_tup) (pe_ix (show IxR _ (rIxT K) from ix_tup) (pv 0) pe_int (fun _ _ => rfl)) (pv 2) (fun _ _ => rfl)))), ?_⟩
    refine ⟨.ref b, rfl, b, rfl, ⟨_, hB⟩, fun D0 hD => lc_tup (K := K) (a := b) (xs := ns.map V.int) (fun i H3 => CP Ps (TupI K) H D0 (facesAt fss (ns.take i)) i H3) (CP.start ht hD) (fun i H3 _ p => p.ext.sqT hB) (fun i x H3 hx p => ?_) (fun H3 p => ?_)⟩
    · obtain ⟨y, hy, rfl⟩ := map_int hx
      have hi : i < ns.length := (List.getElem?_eq_some_iff.mp hy).1
      obtain ⟨b0, b1⟩ := hb y (List.mem_of_getElem? hy)
      have hlt : y.toNat < fss.length := by omega
      obtain ⟨z, hz, hI⟩ := paired_get' h3 (List.getElem?_eq_getElem hlt)
      refine ⟨rfl, yes_ (iteT ?_)⟩
      refine ⟨.ref a, rfl, a, _, 2, .ref fa, rfl, rfl, p.ext.sqT h1, at2, .int y, rfl, fa, xs, y, z, rfl, rfl, p.ext.sqT h2, atI_int b0 hz, ?_⟩
      have r := CP.put (stbT (K := K)) hD (by omega) p (p.ext.tupI hI)
      unfold facesAt at r ⊢
      rw [List.take_add_one, hy, List.map_append]
      have eg : fss.getD y.toNat [] = fss[y.toNat] := by
        rw [List.getD_eq_getElem?_getD, List.getElem?_eq_getElem hlt]
        rfl
      rw [← eg] at r
      exact r
    · obtain ⟨ys, e1, e2, e3⟩ := p.at_
      rw [List.length_map, List.take_length] at e2
      exact q D0 ys H3 p.ext hD e1 e2
/-! ### _law_wrong -/
/-! ### _law_is_order -/
def spIsOrderE (K : PySem.W.Frag) (Ps : Tbs) : Sp := fun vs H Q _ => ∃ (x y : V) (n kk : Int) (fss : List (List Int)) (d : PyData), vs = [x, y] ∧ AskX K Ps H x y n kk fss d ∧ ∀ b H', (b = true ↔ OrdD d fss) → Ext Ps H H' → Q (.bl b) H'
end
end Lf

set_option maxHeartbeats 2000000
namespace Lf
open PySem PySem.Spec PyProof.Rows L2 GxR GxA SrT
section
variable {P : Program} {w : World} {K : PySem.W.Frag} {mg : Str → Option Value} {base : Heap} {Ps : Tbs} {H H' H0 : Hp} {k : Nat} {f c : Addr} {fd : FuncData}
/-! ### _law_brought -/
abbrev nBroughtL : List Str := ["_law_faces", "_law_face", "_law_found", "_law_point", "_law_rest", "_law_other", "_law_one"]
def spBroughtL (K : PySem.W.Frag) (Ps : Tbs) : Sp := fun vs H Q _ => ∃ (x y : V) (laid : List (List Int)) (fc : List Int), vs = [x, y] ∧ LstT K H x laid ∧ TupI K H y fc ∧ fc.length ≤ 100 ∧ laid.length ≤ 100 ∧ Tb Ps H ∧ ∀ v H', Ext Ps H H' → TupI K H' v (brOn laid fc) → Q v H'
theorem ok_broughtL {fI cI : Addr} {fdI : FuncData} (D : Def K mg "_law_brought" sBroughtL ["_law_faces", "_law_face"] f fd c) (DI : Def K mg "_law_within" sWithinL ["_law_part", "_law_face"] fI fdI cI) (GI : FnOk P w K mg base CX0 k fI fdI ["_law_part", "_law_face"] (spWithinL K Ps))
    (mt : mg "tuple" = none) : FnOk P w K mg base CX0 (k + 1) f fd ["_law_faces", "_law_face"] (spBroughtL K Ps) := by
  refine D.ok (k := k) scBroughtL (fun vs H Q E h => ?_) (fun A outer s H vs Q E hr h => ?_)
  · obtain ⟨x, y, laid, fc, rfl, _⟩ := h
    rfl
  · obtain ⟨x, y, laid, fc, rfl, ⟨l, xs, rfl, hL, hp⟩, ⟨b, rfl, hB⟩, hl1, hl2, ht, q⟩ := h
    have hxl := Paired.length hp
    refine ⟨_, pss_cons (ps_set (i := 2) scBroughtL.nd rfl (.inl rfl) (pe_lst pa_nil)) (pss_cons (ps_for PassesOwn.never rfl (pi_tup (pv 1)) (pg_name (i := 3) scBroughtL.nd rfl (.inr rfl))
        (pss_cons (ps_set (i := 4) scBroughtL.nd rfl (.inr rfl) (pe_lc (own := [("_law_other", 5)]) (g := gName 5) (by rfl) scBroughtL.nd (pi_tup (pv 1)) (blkOk_by (N := nBroughtL) (sc := defScope sBroughtL) (by decide +kernel))
            (fun _ _ _ _ _ => pg_name (i := 5) scBroughtL.nd rfl (Or.inl rfl)) (fun _ _ _ _ _ => pts_one (pt_cmpR op_ne (pv 5) (pv 3) (nomark _))) (fun _ _ _ _ _ => pv 5)))
        (pss_one (ps_if (pt_cmpR (op_neD hr.units) (pe_lc (own := [("_law_one", 6)]) (g := gName 6) (by rfl) scBroughtL.nd (pi_list (pv 0)) (blkOk_by (N := nBroughtL) (sc := defScope sBroughtL) (by decide +kernel))
            (fun _ _ _ _ _ => pg_name (i := 6) scBroughtL.nd rfl (Or.inl rfl)) (fun _ _ _ _ _ => pts_one (pt_val (pcl DI GI hr (pa_cons (pv 4) (pa_cons (pv 6) pa_nil))))) (fun _ _ _ _ _ => pv 6)) (pe_lst pa_nil) (nomark _))
          (pss_one (ps_expr (pe_bm PySem.F.plainAttrs_list PySem.F.slot_list_append PySem.F.type_list_append mt_append (pv 2) (pa_cons (pv 3) pa_nil)))) pss_nil))))
      (pss_one (ps_ret (pe_callTy call_tuple_of (by rfl) mt (by decide +kernel) (pa_cons (pv 2) pa_nil))))), ?_⟩
    refine ⟨Nat.zero_le _, fun D0 hD => ?_⟩
    refine ⟨.ref b, rfl, b, rfl, ⟨_, (Ext.new (Ps := Ps) (o := .lst []) ht hD).sqT hB⟩, for_tup (K := K) (a := b) (xs := fc.map V.int) (fun i σ H3 => CP Ps FI H D0 ((fc.take i).filter fun p => inSome (lessL fc [p]) laid) i H3 ∧ ∃ y3 y4 y5 y6, σ = [some (.ref l), some (.ref b), some (.ref D0), y3, y4, y5, y6]) ⟨CP.start ht hD, none, none, none, none, rfl⟩ (fun i σ H3 _ p => p.1.ext.sqT hB) (fun i x σ H3 hx p => ?_) (fun σ H3 p => ?_)⟩
    · obtain ⟨p, y3, y4, y5, y6, rfl⟩ := p
      obtain ⟨y, hy, rfl⟩ := map_int hx
      have hi : i < fc.length := (List.getElem?_eq_some_iff.mp hy).1
      have e := filter_step (q := fun p => inSome (lessL fc [p]) laid) hy
      -- rest
      refine ⟨.ref b, rfl, b, rfl, ⟨_, p.ext.sqT hB⟩, fun D1 hD1 => lc_tup (K := K) (a := b) (xs := fc.map V.int) (fun j H4 => CP Ps FI H3 D1 (lessL (fc.take j) [y]) j H4) (CP.start p.ext.tb hD1) (fun j H4 _ p4 => p4.ext.sqT (p.ext.sqT hB)) (fun j u H4 hu p4 => ?_) (fun H4 p4 => ?_)⟩
      · obtain ⟨o, ho, rfl⟩ := map_int hu
        have hj : j < fc.length := (List.getElem?_eq_some_iff.mp ho).1
        have e2 : lessL (fc.take (j + 1)) [y] = lessL (fc.take j) [y] ++ (if (!decide (o ∈ [y])) = true then [o] else []) := filter_step (q := fun p => !decide (p ∈ [y])) ho
        refine ⟨rfl, .int o, rfl, .int y, rfl, rfl, _, rfl, ite2 (fun hc => ?_) (fun hc => ?_)⟩
        · have hc' : (!decide (o ∈ [y])) = true := by
            simp at hc
            simp [hc]
          rw [if_pos hc'] at e2
          obtain ⟨acc, r1, r2, r3⟩ := CP.put (stbI (K := K)) hD1 (by omega) p4 (show FI H4 (.int o) o from rfl)
          exact ⟨.int o, rfl, acc, r1, r2, by rw [e2]; exact r3⟩
        · have hc' : ¬ (!decide (o ∈ [y])) = true := by
            simp at hc
            simp [hc]
          rw [if_neg hc', List.append_nil] at e2
          rw [e2]
          exact p4.mono (Nat.le_succ j)
      rw [List.length_map, List.take_length] at p4
      obtain ⟨rs, g1, g2, g3⟩ := p4.at_
      rw [paired_ints g2] at g1
      have hrl : (lessL fc [y]).length ≤ 100 := Nat.le_trans (List.length_filter_le _ _) hl1
      have q4 := p.skip (stbI (K := K)) p4.ext
      -- those around it
      refine ⟨.ref l, rfl, l, rfl, ⟨_, q4.ext.sqL hL⟩, fun D2 hD2 => lc_list (K := K) (a := l) (xs := xs) (fun j H5 => CP Ps (TupI K) H4 D2 ((laid.take j).filter fun g => hasAll g (lessL fc [y])) j H5) (CP.start q4.ext.tb hD2) (fun j H5 _ p5 => p5.ext.sqL (q4.ext.sqL hL)) (fun j u H5 hu p5 => ?_) (fun H5 p5 => ?_)⟩
      · obtain ⟨g, hg, hI⟩ := paired_get hp hu
        have hj : j < xs.length := (List.getElem?_eq_some_iff.mp hu).1
        have hI5 : TupI K H5 u g := p5.ext.tupI (q4.ext.tupI hI)
        have e2 := filter_step (q := fun g => hasAll g (lessL fc [y])) hg
        obtain ⟨ua, rfl, hua⟩ := id hI5
        refine ⟨rfl, .ref D1, rfl, .ref ua, rfl, .ref D1, .ref ua, lessL fc [y], g, rfl, ⟨D1, rfl, .inl (.inl (.inl (p5.ext.lst g1)))⟩, ⟨ua, rfl, .inr hua⟩, hrl, p5.ext.tb, fun H6 e6 => ⟨_, rfl, ite2 (fun hc => ?_) (fun hc => ?_)⟩⟩
        · have hc' : hasAll g (lessL fc [y]) = true := hc
          rw [if_pos hc'] at e2
          obtain ⟨acc, r1, r2, r3⟩ := CP.put (stbT (K := K)) hD2 (by omega) (p5.skip (stbT (K := K)) e6) (e6.tupI hI5)
          exact ⟨.ref ua, rfl, acc, r1, r2, by rw [e2]; exact r3⟩
        · have hc' : ¬ hasAll g (lessL fc [y]) = true := hc
          rw [if_neg hc', List.append_nil] at e2
          rw [e2]
          exact (p5.skip (stbT (K := K)) e6).mono (Nat.le_succ j)
      rw [hxl, List.take_length] at p5
      obtain ⟨zs, c1, c2, c3⟩ := p5.at_
      refine ⟨Nat.zero_le _, fun u2 hu2 => ?_⟩
      have x7 := Ext.new (o := .lst []) p5.ext.tb hu2
      refine ⟨_, .list (iD []), dp_lst ⟨D2, zs, rfl, .inl (.inl (x7.lst c1)), x7.tups c2⟩, .lst (xs := []) (.inl (.inl upd_same)) .nil, shp_tups _, shp_list [], _, rfl, ?_⟩
      have ev : PyData.eqv (.list ((laid.filter fun g => hasAll g (lessL fc [y])).map tD)) (.list (iD [])) = !(inSome (lessL fc [y]) laid) := by
        rw [PyData.eqv]
        unfold inSome
        cases e : laid.filter (fun g => hasAll g (lessL fc [y])) with
        | nil =>
          have : laid.any (fun g => hasAll g (lessL fc [y])) = false := by
            rw [List.any_eq_false]
            intro o ho
            exact List.filter_eq_nil_iff.mp e o ho
          rw [this]
          rfl
        | cons o os =>
          have hm : o ∈ laid.filter (fun g => hasAll g (lessL fc [y])) := by rw [e]; exact List.mem_cons_self
          have : laid.any (fun g => hasAll g (lessL fc [y])) = true := List.any_eq_true.mpr ⟨o, (List.mem_filter.mp hm).1, (List.mem_filter.mp hm).2⟩
          rw [this]
          rfl
      rw [ev, Bool.not_not]
      have q7 := q4.skip (stbI (K := K)) (p5.ext.trans x7)
      refine ite2 (fun hc => ?_) (fun hc => ?_)
      · rw [if_pos hc] at e
        obtain ⟨acc, r1, r2, r3⟩ := CP.put (stbI (K := K)) hD (by omega) q7 (show FI _ (.int y) y from rfl)
        exact ⟨.ref D0, rfl, .inl ⟨rfl, _, .inl (.inl r1)⟩, .int y, rfl, D0, _, _, rfl, rfl, r1, r2, by rw [e]; exact r3, _, _, _, _, rfl⟩
      · rw [if_neg hc, List.append_nil] at e
        exact ⟨by rw [e]; exact q7.mono (Nat.le_succ i), _, _, _, _, rfl⟩
    · obtain ⟨p, y3, y4, y5, y6, rfl⟩ := p
      rw [List.length_map, List.take_length] at p
      obtain ⟨ys, e1, e2, e3⟩ := p.at_
      rw [paired_ints e2] at e1
      exact ⟨.ref D0, rfl, D0, _, rfl, .inl ⟨.inl (.inl e1), fun t nt => q _ _ (p.ext.trans (Ext.new p.ext.tb nt)) ⟨t, rfl, .inl (.inl upd_same)⟩⟩⟩
end
end Lf

set_option maxHeartbeats 1000000
/-! a call of what an expression tells: one of some defs -/
namespace Lf
open PySem PySem.Spec PyProof.Rows L2 GxR GxA SrT
def tCallV (Fn : Addr → Sp → Prop) (E : XK) (t0 : TE) (t : TA) : TE := fun σ H Q => t0 σ H fun v H1 => ∃ f sp, v = .ref f ∧ Fn f sp ∧ t σ H1 fun vs H2 => sp vs H2 Q E
theorem pe_callV {X : Cx} {Fn : Addr → Sp → Prop} {CX : CXT} {e0 e : Expr} {es : List Expr} {t0 : TE} {t : TA} {E : XK} {pos : Pos} (hF : ∀ f sp, Fn f sp → ∃ k fd ps, FnOk X.prog X.w X.K X.mg X.base CX k f fd ps sp ∧ Room k X.A ∧ PySem.W.keepIn X.K (.ref f) = true ∧ Binds X.K fd ps [])
    (hx : Passes CX X E) (h0 : PE X e0 t0) (ha : PA X (e :: es) t)
    (hev : eval (.Call e0 (e :: es) [] pos) X.env = (do callWith pos (← eval e0 X.env) [] (backTo pos (starEach (e :: es) X.env)) (backToKw pos (keywordEach [] X.env))) := by rfl)
    (he : starEach (e :: es) X.env = (false, eval e X.env) :: starEach es X.env := by rfl) (hpl : (backTo pos (starEach es X.env)).any (·.1) = false := by rfl) :
    PE X (.Call e0 (e :: es) [] pos) (tCallV Fn E t0 t) := by
  refine ⟨fun pins s σ H Q I h => ?_⟩
  rw [hev]
  refine wpAny_bind (thn (h0.run pins s σ H _ I h) fun u s1 ⟨x, H1, I1, rx, f, sp, ex, hf, q⟩ => ?_)
  subst ex
  obtain rfl : u = Value.ref f := rx
  obtain ⟨k, fd, ps, F, hr, hk, hb⟩ := hF f sp hf
  refine PySem.W.callWith_K (h₀ := X.base) I.ok.mod.kin hk (thn (ha.run pos pins s1 σ H1 _ I1 q) fun us s2 ⟨vs, H2, I2, r, q2⟩ => ⟨I2.kIn, ?_⟩) he hpl
  exact run_fn F hr hb .nil hx I2 r (by rw [List.append_nil]; exact q2)
end Lf

set_option maxHeartbeats 2000000
namespace Lf
open PySem PySem.Spec PyProof.Rows L2 GxR GxA SrT
section
variable {P : Program} {w : World} {K : PySem.W.Frag} {mg : Str → Option Value} {base : Heap} {Ps : Tbs} {H H' H0 : Hp} {k : Nat} {f c : Addr} {fd : FuncData} {CS CN CL CR CO CP : Addr}
/-! ### may_lay of any number of the stack: told -/
def spMayT (K : PySem.W.Frag) (Ps : Tbs) : Sp := fun vs H Q _ => ∃ (x y : V) (n k i : Int) (fss : List (List Int)) (ns : List Int), vs = [x, y, .int i] ∧ Stk K H x n k fss ∧ StkOk n k fss ∧ TupI K H y ns ∧ LotOk fss.length ns ∧ 0 ≤ i ∧ i < (fss.length : Int) ∧ Tb Ps H ∧ ∀ b H', Ext Ps H H' → Q (.bl b) H'
variable {fS cS fL cL fF cF fA cA fO cO : Addr} {fdS fdL fdF fdA fdO : FuncData}
theorem ok_mayT (D : Def K mg "may_lay" sMayLay ["stack", "lot", "number"] f fd c) (DS : Def K mg "need_stack" sNeedStack ["stack"] fS fdS cS) (GS : FnOk P w K mg base CX0 k fS fdS ["stack"] (spNeedStack K Ps)) (DL : Def K mg "need_lot" sNeedLot ["stack", "lot"] fL fdL cL) (GL : FnOk P w K mg base CX0 k fL fdL ["stack", "lot"] (spNeedLot K Ps))
    (DF : Def K mg "need_face" sNeedFace ["stack", "number"] fF fdF cF) (GF : FnOk P w K mg base CX0 k fF fdF ["stack", "number"] (spNeedFace K)) (DA : Def K mg "faces_at" sFacesAt ["stack", "lot"] fA fdA cA) (GA : FnOk P w K mg base CX0 k fA fdA ["stack", "lot"] (spFacesAt K Ps))
    (DO : Def K mg "lies_on" sLies ["laid", "face"] fO fdO cO) (GO : FnOk P w K mg base CX0 k fO fdO ["laid", "face"] (spLies K Ps)) : FnOk P w K mg base CX0 (k + 1) f fd ["stack", "lot", "number"] (spMayT K Ps) := by
  refine D.ok (k := k) scMayLay (fun vs H Q E h => ?_) (fun A outer s H vs Q E hr h => ?_)
  · obtain ⟨x, y, n, kk, i, fss, ns, rfl, _⟩ := h
    rfl
  · obtain ⟨x, y, n, kk, i, fss, ns, rfl, s0, S, hy, lok, i0, i1, ht, q⟩ := h
    refine ⟨_, pss_cons (ps_expr (pcl DS GS hr (pa_cons (pv 0) pa_nil))) (pss_cons (ps_expr (pcl DL GL hr (pa_cons (pv 0) (pa_cons (pv 1) pa_nil)))) (pss_cons (ps_expr (pcl DF GF hr (pa_cons (pv 0) (pa_cons (pv 2) pa_nil))))
      (pss_one (ps_ret (pe_and (pe_cmpR (show OpR _ _ (rIn K true) from op_notIn_seq) (pv 2) (pv 1) (by with_unfolding_all rfl)) (pe_one (pcl DO GO hr (pa_cons (pcl DA GA hr (pa_cons (pv 0) (pa_cons (pv 1) pa_nil))) (pa_cons (pe_ix ix_tup (pe_ix ix_tup (pv 0) pe_int (fun _ _ => rfl)) (pv 2) (fun _ _ => rfl)) pa_nil))))))))), ?_⟩
    refine ⟨x, rfl, x, n, kk, fss, rfl, s0, S, ht, fun H1 e1 => ?_⟩
    refine ⟨x, rfl, y, rfl, x, y, n, kk, fss, ns, rfl, e1.stk s0, e1.tupI hy, lok, e1.tb, fun H2 e2 => ?_⟩
    have x2 := e1.trans e2
    refine ⟨x, rfl, .int i, rfl, x, n, kk, i, fss, rfl, x2.stk s0, i0, i1, ?_⟩
    obtain ⟨b, rfl, hB⟩ := x2.tupI hy
    refine ⟨.int i, rfl, .ref b, rfl, b, _, rfl, .inr hB, rfl, flat_ints ns, _, rfl, ite2 (fun _ => ?_) (fun _ => q _ _ x2)⟩
    refine ⟨x, rfl, .ref b, rfl, x, .ref b, n, kk, fss, ns, rfl, x2.stk s0, x2.tupI hy, lok.bel, lok.len, x2.tb, fun v H3 e3 hv => ?_⟩
    have hlt : i.toNat < fss.length := by omega
    obtain ⟨a, fa, xs, rfl, h1, h2, h3⟩ := (x2.trans e3).stk s0
    obtain ⟨z, hz, hI⟩ := paired_get' h3 (List.getElem?_eq_getElem hlt)
    have h4 := S.len4 _ (List.getElem_mem hlt)
    exact ⟨.ref a, rfl, a, _, 2, .ref fa, rfl, rfl, h1, at2, .int i, rfl, fa, xs, i, z, rfl, rfl, h2, atI_int i0 hz, v, z, _, _, rfl, hv, hI, by omega, e3.tb, fun H4 e4 => q _ _ (x2.trans (e3.trans e4))⟩
/-! ### _law_asked -/
def spAsked (K : PySem.W.Frag) (Ps : Tbs) (CS CL CN CR CO : Addr) : Sp := fun vs H Q E => ∃ (wy : Int) (x y z : V), vs = [.int wy, x, y, z] ∧ Tb Ps H ∧ ∀ H', Ext Ps H H' →
  ((0 ≤ wy ∧ wy ≤ 2 ∧ spLotX K Ps CS CL CN [x, y, z] H' Q E) ∨ (wy = 0 ∧ spMayT K Ps [x, y, z] H' Q E) ∨ (wy = 3 ∧ spIsOrderX K Ps CS [x, y] H' Q E) ∨ (wy = 4 ∧ spFirstWrongX K Ps CS CR [x, y] H' Q E) ∨ (wy = 5 ∧ spBringsX K Ps CS CO [x, y] H' Q E))
def FnL3 (K : PySem.W.Frag) (Ps : Tbs) (CS CL CN fM fB fN : Addr) : Addr → Sp → Prop := fun f sp => (f = fM ∧ sp = fun vs H Q E => spLotX K Ps CS CL CN vs H Q E ∨ spMayT K Ps vs H Q E) ∨ (f = fB ∧ sp = spLotX K Ps CS CL CN) ∨ (f = fN ∧ sp = spLotX K Ps CS CL CN)
def FnR3 (K : PySem.W.Frag) (Ps : Tbs) (CS CR CO fO fW fG : Addr) : Addr → Sp → Prop := fun f sp => (f = fO ∧ sp = spIsOrderX K Ps CS) ∨ (f = fW ∧ sp = spFirstWrongX K Ps CS CR) ∨ (f = fG ∧ sp = spBringsX K Ps CS CO)
end
end Lf

set_option maxHeartbeats 2000000
namespace Lf
open PySem PySem.Spec PyProof.Rows L2 GxR GxA SrT EnT
section
variable {P : Program} {w : World} {K : PySem.W.Frag} {mg : Str → Option Value} {base : Heap} {Ps : Tbs} {H H' H0 : Hp} {k : Nat} {f c : Addr} {fd : FuncData}
/-- brings, its list new -/
def spBringsF (K : PySem.W.Frag) (Ps : Tbs) : Sp := fun vs H Q _ => ∃ (x y : V) (n kk : Int) (fss : List (List Int)) (ns : List Int), vs = [x, y] ∧ AskR K Ps H x y n kk fss ns ∧ isOrd fss ns ∧ ∀ l ys H', Ext Ps H H' → H l = none → H' l = some (.lst ys) → Paired (TupI K H') ys (bringsL (facesAt fss ns) ns.length) → Q (.ref l) H'
end
end Lf

set_option maxHeartbeats 4000000
namespace Lf
open PySem PySem.Spec PyProof.Rows L2 GxR GxA SrT EnT
section
variable {P : Program} {w : World} {K : PySem.W.Frag} {mg : Str → Option Value} {base : Heap} {Ps : Tbs} {H H' H0 : Hp} {k : Nat} {f c : Addr} {fd : FuncData} {C : Nat → Addr} {CL CS CO PL : Addr}
def spBringsR (K : PySem.W.Frag) (Ps : Tbs) : Sp := fun vs H Q _ => ∃ (x y : V) (n kk : Int) (fss : List (List Int)) (d : PyData), vs = [x, y] ∧ AskX K Ps H x y n kk fss d ∧ ∀ H', Ext Ps H H' → Q (.bl true) H'
end
end Lf

set_option maxHeartbeats 2000000
namespace Lf
open PySem PySem.Spec PyProof.Rows L2 GxR GxA SrT
/-! ### the mathematics of the law: what is new, and what has all points that the face brings -/
/-- the part has its points in the face, and all that the face brings -/
def dueP (br fc g : List Int) : Bool := hasAll fc g && hasAll g br
def dueUp (n : Nat) (br fc : List Int) : Nat → List (List Int)
  | 0 => []
  | m + 1 => dueUp n br fc m ++ (allF n m).filter (dueP br fc)
theorem mem_dueUp {n : Nat} {br fc g : List Int} : ∀ {m : Nat}, g ∈ dueUp n br fc m ↔ dueP br fc g = true ∧ RisB n g ∧ g.length < m
  | 0 => by
    show g ∈ [] ↔ _
    simp
  | m + 1 => by
    show g ∈ dueUp n br fc m ++ _ ↔ _
    rw [List.mem_append, mem_dueUp, List.mem_filter, mem_allF]
    constructor
    · rintro (⟨h1, h2, h3⟩ | ⟨⟨h1, h2⟩, h3⟩)
      · exact ⟨h1, h2, by omega⟩
      · exact ⟨h3, h1, by omega⟩
    · rintro ⟨h1, h2, h3⟩
      by_cases e : g.length = m
      · exact .inr ⟨⟨h2, e⟩, h1⟩
      · exact .inl ⟨h1, h2, by omega⟩
theorem nodup_dueUp (n : Nat) (br fc : List Int) : ∀ m, (dueUp n br fc m).Nodup
  | 0 => by
    show ([] : List (List Int)).Nodup
    simp
  | m + 1 => by
    refine List.nodup_append.mpr ⟨nodup_dueUp n br fc m, (nodup_allF n m).filter _, fun a ha b hb e => ?_⟩
    have h1 := (mem_dueUp.mp ha).2.2
    have h2 := (mem_allF.mp (List.mem_filter.mp hb).1).2
    rw [e] at h1
    omega
theorem filter_sorted {l : List (List Int)} (p : List Int → Bool) : ((sortL l).filter p).Pairwise (fun a b => le a b = true) := (sortL_pw l).filter p
/-- THE LAW'S WORD -/
theorem law_word {n k : Nat} {fc : List Int} {laid : List (List Int)} (hf : RisB n fc) (hk : fc.length = k) :
    decide (newParts laid fc = sortL (dueUp n (brOn laid fc) fc (k + 1))) = liesOn laid fc := by
  have memN : ∀ g, g ∈ newParts laid fc ↔ g.Sublist fc ∧ inSome g laid = false := fun g => by
    unfold newParts
    rw [List.mem_filter, (sortL_perm _).mem_iff, mem_subs]
    simp
  have memD : ∀ g, g ∈ sortL (dueUp n (brOn laid fc) fc (k + 1)) ↔ g.Sublist fc ∧ ∀ p ∈ brOn laid fc, p ∈ g := fun g => by
    rw [(sortL_perm _).mem_iff, mem_dueUp]
    unfold dueP
    rw [Bool.and_eq_true, hasAll_true, hasAll_true]
    constructor
    · rintro ⟨⟨h1, h2⟩, h3, h4⟩
      exact ⟨sub_of hf.1 h3.1 h1, h2⟩
    · rintro ⟨h1, h2⟩
      have hl := h1.length_le
      exact ⟨⟨fun p hp => h1.subset hp, h2⟩, ⟨hf.1.sublist h1, fun i hi => hf.2 i (h1.subset hi)⟩, by omega⟩
  have ndN : (newParts laid fc).Nodup := by
    unfold newParts
    exact ((sortL_perm _).nodup_iff.mpr (subs_nodup _ fc rfl hf.nd)).filter _
  have ndD : (sortL (dueUp n (brOn laid fc) fc (k + 1))).Nodup := (sortL_perm _).nodup_iff.mpr (nodup_dueUp _ _ _ _)
  have brSub : (brOn laid fc).Sublist fc := List.filter_sublist
  unfold liesOn
  cases hB : inSome (brOn laid fc) laid with
  | true =>
    refine decide_eq_false fun e => ?_
    have h1 : brOn laid fc ∈ newParts laid fc := by
      rw [e]
      exact (memD _).mpr ⟨brSub, fun p hp => hp⟩
    have h2 := ((memN _).mp h1).2
    rw [hB] at h2
    cases h2
  | false =>
    refine decide_eq_true (sorted_eq ((List.perm_ext_iff_of_nodup ndN ndD).mpr fun g => ?_) (filter_sorted _) (sortL_pw _))
    rw [memN, memD]
    constructor
    · rintro ⟨h1, h2⟩
      refine ⟨h1, fun p hp => ?_⟩
      by_cases hpg : p ∈ g
      · exact hpg
      · exfalso
        obtain ⟨hp1, hp2⟩ := List.mem_filter.mp hp
        obtain ⟨f, hf1, hf2⟩ := inSome_true.mp hp2
        have h3 : inSome g laid = true := inSome_true.mpr ⟨f, hf1, fun z hz => hf2 z (by
          unfold lessL
          rw [List.mem_filter]
          refine ⟨h1.subset hz, ?_⟩
          have : z ≠ p := fun q => hpg (q ▸ hz)
          simpa using this)⟩
        rw [h3] at h2
        cases h2
    · rintro ⟨h1, h2⟩
      refine ⟨h1, ?_⟩
      cases hg : inSome g laid with
      | false => rfl
      | true =>
        obtain ⟨f, hf1, hf2⟩ := inSome_true.mp hg
        have : inSome (brOn laid fc) laid = true := inSome_true.mpr ⟨f, hf1, fun p hp => hf2 p (h2 p hp)⟩
        rw [hB] at this
        cases this
end Lf

set_option maxHeartbeats 2000000
namespace Lf
open PySem PySem.Spec PyProof.Rows L2 GxR GxA SrT
section
variable {P : Program} {w : World} {K : PySem.W.Frag} {mg : Str → Option Value} {base : Heap} {Ps : Tbs} {H H' H0 : Hp} {k : Nat} {f c : Addr} {fd : FuncData}
variable {CN : Addr} {fS cS fL cL fF cF fA cA fO cO : Addr} {fdS fdL fdF fdA fdO : FuncData}
/-! ### may_lay, exactly -/
def spMayA (K : PySem.W.Frag) (Ps : Tbs) : Sp := fun vs H Q _ => ∃ (x y : V) (n k i : Int) (fss : List (List Int)) (ns fc : List Int), vs = [x, y, .int i] ∧ Stk K H x n k fss ∧ StkOk n k fss ∧ TupI K H y ns ∧ LotOk fss.length ns ∧ 0 ≤ i ∧ i < (fss.length : Int) ∧ fss[i.toNat]? = some fc ∧ Tb Ps H ∧ ∀ H', Ext Ps H H' → Q (.bl (!decide (i ∈ ns) && liesOn (facesAt fss ns) fc)) H'
theorem ok_mayA (D : Def K mg "may_lay" sMayLay ["stack", "lot", "number"] f fd c) (DS : Def K mg "need_stack" sNeedStack ["stack"] fS fdS cS) (GS : FnOk P w K mg base CX0 k fS fdS ["stack"] (spNeedStack K Ps)) (DL : Def K mg "need_lot" sNeedLot ["stack", "lot"] fL fdL cL) (GL : FnOk P w K mg base CX0 k fL fdL ["stack", "lot"] (spNeedLot K Ps))
    (DF : Def K mg "need_face" sNeedFace ["stack", "number"] fF fdF cF) (GF : FnOk P w K mg base CX0 k fF fdF ["stack", "number"] (spNeedFace K)) (DA : Def K mg "faces_at" sFacesAt ["stack", "lot"] fA fdA cA) (GA : FnOk P w K mg base CX0 k fA fdA ["stack", "lot"] (spFacesAt K Ps))
    (DO : Def K mg "lies_on" sLies ["laid", "face"] fO fdO cO) (GO : FnOk P w K mg base CX0 k fO fdO ["laid", "face"] (spLies K Ps)) : FnOk P w K mg base CX0 (k + 1) f fd ["stack", "lot", "number"] (spMayA K Ps) := by
  refine D.ok (k := k) scMayLay (fun vs H Q E h => ?_) (fun A outer s H vs Q E hr h => ?_)
  · obtain ⟨x, y, n, kk, i, fss, ns, fc, rfl, _⟩ := h
    rfl
  · obtain ⟨x, y, n, kk, i, fss, ns, fc, rfl, s0, S, hy, lok, i0, i1, hfc, ht, q⟩ := h
    refine ⟨_, pss_cons (ps_expr (pcl DS GS hr (pa_cons (pv 0) pa_nil))) (pss_cons (ps_expr (pcl DL GL hr (pa_cons (pv 0) (pa_cons (pv 1) pa_nil)))) (pss_cons (ps_expr (pcl DF GF hr (pa_cons (pv 0) (pa_cons (pv 2) pa_nil))))
      (pss_one (ps_ret (pe_and (pe_cmpR (show OpR _ _ (rIn K true) from op_notIn_seq) (pv 2) (pv 1) (by with_unfolding_all rfl)) (pe_one (pcl DO GO hr (pa_cons (pcl DA GA hr (pa_cons (pv 0) (pa_cons (pv 1) pa_nil))) (pa_cons (pe_ix ix_tup (pe_ix ix_tup (pv 0) pe_int (fun _ _ => rfl)) (pv 2) (fun _ _ => rfl)) pa_nil))))))))), ?_⟩
    refine ⟨x, rfl, x, n, kk, fss, rfl, s0, S, ht, fun H1 e1 => ?_⟩
    refine ⟨x, rfl, y, rfl, x, y, n, kk, fss, ns, rfl, e1.stk s0, e1.tupI hy, lok, e1.tb, fun H2 e2 => ?_⟩
    have x2 := e1.trans e2
    refine ⟨x, rfl, .int i, rfl, x, n, kk, i, fss, rfl, x2.stk s0, i0, i1, ?_⟩
    obtain ⟨b, rfl, hB⟩ := x2.tupI hy
    refine ⟨.int i, rfl, .ref b, rfl, b, _, rfl, .inr hB, rfl, flat_ints ns, (!decide (i ∈ ns)), ?_, ite2 (fun hc => ?_) (fun hc => ?_)⟩
    · refine congrArg V.bl ?_
      show (!inV (.int i) (ns.map V.int)) = _
      rw [inV_ints]
    · refine ⟨x, rfl, .ref b, rfl, x, .ref b, n, kk, fss, ns, rfl, x2.stk s0, x2.tupI hy, lok.bel, lok.len, x2.tb, fun v H3 e3 hv => ?_⟩
      obtain ⟨a, fa, xs, rfl, h1, h2, h3⟩ := (x2.trans e3).stk s0
      obtain ⟨z, hz, hI⟩ := paired_get' h3 hfc
      have h4 := S.len4 _ (List.mem_of_getElem? hfc)
      refine ⟨.ref a, rfl, a, _, 2, .ref fa, rfl, rfl, h1, at2, .int i, rfl, fa, xs, i, z, rfl, rfl, h2, atI_int i0 hz, v, z, _, _, rfl, hv, hI, by omega, e3.tb, fun H4 e4 => ?_⟩
      have z := q _ (x2.trans (e3.trans e4))
      rw [hc, Bool.true_and] at z
      exact z
    · have z := q _ x2
      rw [Bool.eq_false_iff.mpr hc, Bool.false_and] at z
      exact z
/-! ### new_parts, its list new -/
def spNewPartsN (K : PySem.W.Frag) (Ps : Tbs) : Sp := fun vs H Q _ => ∃ (x y : V) (n k i : Int) (fss : List (List Int)) (ns fc : List Int), vs = [x, y, .int i] ∧ Ask K Ps H x y i n k fss ns ∧ fss[i.toNat]? = some fc ∧ ∀ (l : Addr) (ys : List V) (H' : Hp), Ext Ps H H' → H l = none → H' l = some (.lst ys) → Paired (TupI K H') ys (newParts (facesAt fss ns) fc) → Q (.ref l) H'
theorem ok_newPartsN {fI cI : Addr} {fdI : FuncData} (D : Def K mg "new_parts" sNewParts ["stack", "lot", "number"] f fd c) (DS : Def K mg "need_stack" sNeedStack ["stack"] fS fdS cS) (GS : FnOk P w K mg base CX0 k fS fdS ["stack"] (spNeedStack K Ps)) (DL : Def K mg "need_lot" sNeedLot ["stack", "lot"] fL fdL cL) (GL : FnOk P w K mg base CX0 k fL fdL ["stack", "lot"] (spNeedLot K Ps))
    (DF : Def K mg "need_face_beside" sBeside ["stack", "lot", "number"] fF fdF cF) (GF : FnOk P w K mg base CX0 k fF fdF ["stack", "lot", "number"] (spBeside K)) (DA : Def K mg "faces_at" sFacesAt ["stack", "lot"] fA fdA cA) (GA : FnOk P w K mg base CX0 k fA fdA ["stack", "lot"] (spFacesAt K Ps))
    (DO : Def K mg "parts_in" sParts ["face"] fO fdO cO) (GO : FnOk P w K mg base CX0 k fO fdO ["face"] (spPartsH K Ps)) (DI : Def K mg "in_some" sInSome ["points", "faces"] fI fdI cI) (GI : FnOk P w K mg base CX0 k fI fdI ["points", "faces"] (spInSome K Ps)) : FnOk P w K mg base CX0 (k + 1) f fd ["stack", "lot", "number"] (spNewPartsN K Ps) := by
  refine D.ok (k := k) scNewParts (fun vs H Q E h => ?_) (fun A outer s H vs Q E hr h => ?_)
  · obtain ⟨x, y, n, kk, i, fss, ns, fc, rfl, _⟩ := h
    rfl
  · obtain ⟨x, y, n, kk, i, fss, ns, fc, rfl, h0, hf, q⟩ := h
    refine ⟨_, pss_cons (ps_expr (pcl DS GS hr (pa_cons (pv 0) pa_nil))) (pss_cons (ps_expr (pcl DL GL hr (pa_cons (pv 0) (pa_cons (pv 1) pa_nil)))) (pss_cons (ps_expr (pcl DF GF hr (pa_cons (pv 0) (pa_cons (pv 1) (pa_cons (pv 2) pa_nil)))))
      (pss_cons (ps_set (i := 3) scNewParts.nd rfl (.inr rfl) (pcl DA GA hr (pa_cons (pv 0) (pa_cons (pv 1) pa_nil))))
      (pss_one (ps_ret (pe_lc (own := [("part", 4)]) (g := gName 4) (by rfl) scNewParts.nd (pi_list (pcl DO GO hr (pa_cons (pe_ix ix_tup (pe_ix ix_tup (pv 0) pe_int (fun _ _ => rfl)) (pv 2) (fun _ _ => rfl)) pa_nil))) (blkOk_by (N := ["stack", "lot", "number", "laid", "part"]) (sc := defScope sNewParts) (by decide +kernel))
        (fun _ _ _ _ _ => pg_name (i := 4) scNewParts.nd rfl (Or.inl rfl)) (fun _ _ _ _ _ => pts_one (pt_not (pt_val (pcl DI GI hr (pa_cons (pv 4) (pa_cons (pv 3) pa_nil)))))) (fun _ _ _ _ _ => pv 4))))))), ?_⟩
    refine ⟨x, rfl, x, n, kk, fss, rfl, h0.stk, h0.ok, h0.tb, fun H1 e1 => ?_⟩
    have a1 := h0.ext e1
    refine ⟨x, rfl, y, rfl, x, y, n, kk, fss, ns, rfl, a1.stk, a1.lot, a1.lok, a1.tb, fun H2 e2 => ?_⟩
    have a2 := a1.ext e2
    refine ⟨x, rfl, y, rfl, .int i, rfl, x, y, n, kk, i, fss, ns, rfl, a2.stk, a2.lot, a2.i0, a2.i1, a2.out, ?_⟩
    refine ⟨x, rfl, y, rfl, x, y, n, kk, fss, ns, rfl, a2.stk, a2.lot, a2.lok.bel, a2.lok.len, a2.tb, fun v H3 e3 hv => ?_⟩
    have a3 := a2.ext e3
    obtain ⟨a, fa, xs, rfl, h1, h2, h3⟩ := id a3.stk
    obtain ⟨z, hz, hI⟩ := paired_get' h3 hf
    have h4 := h0.ok.len4 fc (List.mem_of_getElem? hf)
    have h16 := subs_le h4 fc.length
    rw [List.take_length] at h16
    refine ⟨.ref a, rfl, a, _, 2, .ref fa, rfl, rfl, h1, at2, .int i, rfl, fa, xs, i, z, rfl, rfl, h2, atI_int h0.i0 hz, z, fc, rfl, hI, h4, e3.tb, fun l ys H4 e4 _ hl hp => ⟨l, rfl, ⟨_, .inl (.inl hl)⟩, fun D0 hD => ?_⟩⟩
    obtain ⟨lv, lxs, rfl, hl1, hl2⟩ := e4.lstT hv
    have hys : ys.length ≤ 16 := by
      rw [Paired.length hp, (sortL_perm _).length_eq]
      exact h16
    refine lc_list (K := K) (a := l) (xs := ys) (fun j H5 => CP Ps TupH H4 D0 (((sortL (subsL fc)).take j).filter fun p => !inSome p (facesAt fss ns)) j H5) (CP.start e4.tb hD) (fun j H5 _ p => p.ext.sqL (.inl (.inl hl))) (fun j g H5 hg p => ?_) (fun H5 p => ?_)
    · obtain ⟨pt, hpt, hIg⟩ := paired_get hp hg
      have hj : j < ys.length := (List.getElem?_eq_some_iff.mp hg).1
      refine ⟨rfl, g, rfl, .ref lv, rfl, g, lv, lxs, pt, _, rfl, (tupH_ext p.ext hIg).tup, p.ext.sqL hl1, p.ext.tups hl2, p.ext.tb, fun H6 e6 => ⟨_, rfl, ?_⟩⟩
      have p6 := p.skip (stbH (K := K)) e6
      have hft := filt_take (fun p => !inSome p (facesAt fss ns)) hpt
      refine ite2 (fun hc => ?_) (fun hc => ?_)
      · refine ⟨g, rfl, ?_⟩
        have r := CP.put (stbH (K := K)) hD (by omega) p6 (tupH_ext e6 (tupH_ext p.ext hIg))
        rw [if_pos hc] at hft
        rw [hft]
        exact r
      · rw [if_neg hc, List.append_nil] at hft
        rw [hft]
        exact p6.mono (Nat.le_succ j)
    · obtain ⟨zs, g1, g2, g3⟩ := p.at_
      rw [Paired.length hp, List.take_length] at g2
      exact q D0 zs H5 (e1.trans (e2.trans (e3.trans (e4.trans p.ext)))) ((e1.trans (e2.trans (e3.trans e4))).free hD) g1 (L2.Paired.mapP g2 fun _ _ z => z.tup)

/-! ### brought and new_parts of a face in the lot -/
def spBesideIn (K : PySem.W.Frag) (CN : Addr) : Sp := fun vs H _ E => ∃ (x y : V) (n k i : Int) (fss : List (List Int)) (ns : List Int), vs = [x, y, .int i] ∧ Stk K H x n k fss ∧ TupI K H y ns ∧ 0 ≤ i ∧ i < (fss.length : Int) ∧ i ∈ ns ∧ E (.ref CN) none H
theorem ok_besideIn (D : Def K mg "need_face_beside" sBeside ["stack", "lot", "number"] f fd c) (DF : Def K mg "need_face" sNeedFace ["stack", "number"] fF fdF cF) (GF : FnOk P w K mg base (L2.CX P w) k fF fdF ["stack", "number"] (spNeedFace K)) (RN : Ref K mg "NoNumber" CN) :
    FnOk P w K mg base (L2.CX P w) (k + 1) f fd ["stack", "lot", "number"] (spBesideIn K CN) := by
  refine D.okX (k := k) scBeside (fun vs H Q E h => ?_) (fun A outer s H vs Q E hr tk h => ?_)
  · obtain ⟨x, y, n, kk, i, fss, ns, rfl, _⟩ := h
    rfl
  · obtain ⟨x, _, n, kk, i, fss, ns, rfl, hS, ⟨b, rfl, hB⟩, i0, i1, hn, q⟩ := h
    refine ⟨_, pss_cons (ps_expr (pclN DF GF hr (pa_cons (pv 0) (pa_cons (pv 2) pa_nil)))) (pss_one (ps_if (pt_cmpR (show OpR _ _ (rIn K false) from op_in_seq) (pv 2) (pv 1) (by with_unfolding_all rfl)) (pss_one (ps_refuse RN tk)) pss_nil)), ?_⟩
    refine ⟨x, rfl, .int i, rfl, x, n, kk, i, fss, rfl, hS, i0, i1, .int i, rfl, .ref b, rfl, b, _, rfl, .inr hB, rfl, flat_ints ns, true, ?_, iteT q⟩
    refine congrArg V.bl ?_
    show inV (.int i) (ns.map V.int) = true
    rw [inV_ints]
    exact decide_eq_true hn
def spInX (K : PySem.W.Frag) (Ps : Tbs) (CN : Addr) : Sp := fun vs H _ E => ∃ (x y : V) (n k i : Int) (fss : List (List Int)) (ns : List Int), vs = [x, y, .int i] ∧ Stk K H x n k fss ∧ StkOk n k fss ∧ TupI K H y ns ∧ LotOk fss.length ns ∧ 0 ≤ i ∧ i < (fss.length : Int) ∧ i ∈ ns ∧ Tb Ps H ∧ ∀ H', Ext Ps H H' → E (.ref CN) none H'
theorem ok_broughtIn (D : Def K mg "brought" sBrought ["stack", "lot", "number"] f fd c) (DS : Def K mg "need_stack" sNeedStack ["stack"] fS fdS cS) (GS : FnOk P w K mg base (L2.CX P w) k fS fdS ["stack"] (spNeedStack K Ps)) (DL : Def K mg "need_lot" sNeedLot ["stack", "lot"] fL fdL cL) (GL : FnOk P w K mg base (L2.CX P w) k fL fdL ["stack", "lot"] (spNeedLot K Ps))
    (DF : Def K mg "need_face_beside" sBeside ["stack", "lot", "number"] fF fdF cF) (GF : FnOk P w K mg base (L2.CX P w) k fF fdF ["stack", "lot", "number"] (spBesideIn K CN)) : FnOk P w K mg base (L2.CX P w) (k + 1) f fd ["stack", "lot", "number"] (spInX K Ps CN) := by
  refine D.okX (k := k) scBrought (fun vs H Q E h => ?_) (fun A outer s H vs Q E hr tk h => ?_)
  · obtain ⟨x, y, n, kk, i, fss, ns, rfl, _⟩ := h
    rfl
  · obtain ⟨x, y, n, kk, i, fss, ns, rfl, hS, S, hy, hl, i0, i1, hin, ht, q⟩ := h
    refine ⟨_, pss_cons (ps_expr (pclN DS GS hr (pa_cons (pv 0) pa_nil))) (pss_cons (ps_expr (pclN DL GL hr (pa_cons (pv 0) (pa_cons (pv 1) pa_nil)))) (pss_cons (ps_expr (pclX DF GF hr tk (pa_cons (pv 0) (pa_cons (pv 1) (pa_cons (pv 2) pa_nil))))) (pss_one ps_never))), ?_⟩
    refine ⟨x, rfl, x, n, kk, fss, rfl, hS, S, ht, fun H1 e1 => ?_⟩
    refine ⟨x, rfl, y, rfl, x, y, n, kk, fss, ns, rfl, e1.stk hS, e1.tupI hy, hl, e1.tb, fun H2 e2 => ?_⟩
    have x2 := e1.trans e2
    exact ⟨x, rfl, y, rfl, .int i, rfl, x, y, n, kk, i, fss, ns, rfl, x2.stk hS, x2.tupI hy, i0, i1, hin, q _ x2⟩
theorem ok_newPartsIn (D : Def K mg "new_parts" sNewParts ["stack", "lot", "number"] f fd c) (DS : Def K mg "need_stack" sNeedStack ["stack"] fS fdS cS) (GS : FnOk P w K mg base (L2.CX P w) k fS fdS ["stack"] (spNeedStack K Ps)) (DL : Def K mg "need_lot" sNeedLot ["stack", "lot"] fL fdL cL) (GL : FnOk P w K mg base (L2.CX P w) k fL fdL ["stack", "lot"] (spNeedLot K Ps))
    (DF : Def K mg "need_face_beside" sBeside ["stack", "lot", "number"] fF fdF cF) (GF : FnOk P w K mg base (L2.CX P w) k fF fdF ["stack", "lot", "number"] (spBesideIn K CN)) : FnOk P w K mg base (L2.CX P w) (k + 1) f fd ["stack", "lot", "number"] (spInX K Ps CN) := by
  refine D.okX (k := k) scNewParts (fun vs H Q E h => ?_) (fun A outer s H vs Q E hr tk h => ?_)
  · obtain ⟨x, y, n, kk, i, fss, ns, rfl, _⟩ := h
    rfl
  · obtain ⟨x, y, n, kk, i, fss, ns, rfl, hS, S, hy, hl, i0, i1, hin, ht, q⟩ := h
    refine ⟨_, pss_cons (ps_expr (pclN DS GS hr (pa_cons (pv 0) pa_nil))) (pss_cons (ps_expr (pclN DL GL hr (pa_cons (pv 0) (pa_cons (pv 1) pa_nil)))) (pss_cons (ps_expr (pclX DF GF hr tk (pa_cons (pv 0) (pa_cons (pv 1) (pa_cons (pv 2) pa_nil))))) (pss_cons ps_never (pss_one ps_never)))), ?_⟩
    refine ⟨x, rfl, x, n, kk, fss, rfl, hS, S, ht, fun H1 e1 => ?_⟩
    refine ⟨x, rfl, y, rfl, x, y, n, kk, fss, ns, rfl, e1.stk hS, e1.tupI hy, hl, e1.tb, fun H2 e2 => ?_⟩
    have x2 := e1.trans e2
    exact ⟨x, rfl, y, rfl, .int i, rfl, x, y, n, kk, i, fss, ns, rfl, x2.stk hS, x2.tupI hy, i0, i1, hin, q _ x2⟩
end
end Lf

set_option maxHeartbeats 2000000
namespace Lf
open PySem PySem.Spec PyProof.Rows L2 GxR GxA SrT
abbrev sNewL : Stmt := topS 58
theorem scNewL : FnScope ["_law_stack_here", "_law_faces", "_law_face", "_law_found", "_law_many", "_law_part", "_law_one"] ["_law_stack_here", "_law_faces", "_law_face"] (defScope sNewL) := ⟨rfl, rfl, rfl, by decide +kernel, rfl, by decide +kernel, by decide +kernel⟩
/-! ### the parts of up to so many points that a test lets -/
def upP (n : Nat) (p : List Int → Bool) : Nat → List (List Int)
  | 0 => []
  | m + 1 => upP n p m ++ (allF n m).filter p
theorem mem_upP {n : Nat} {p : List Int → Bool} {g : List Int} : ∀ {m : Nat}, g ∈ upP n p m ↔ p g = true ∧ RisB n g ∧ g.length < m
  | 0 => by
    show g ∈ [] ↔ _
    simp
  | m + 1 => by
    show g ∈ upP n p m ++ _ ↔ _
    rw [List.mem_append, mem_upP, List.mem_filter, mem_allF]
    constructor
    · rintro (⟨h1, h2, h3⟩ | ⟨⟨h1, h2⟩, h3⟩)
      · exact ⟨h1, h2, by omega⟩
      · exact ⟨h3, h1, by omega⟩
    · rintro ⟨h1, h2, h3⟩
      by_cases e : g.length = m
      · exact .inr ⟨⟨h2, e⟩, h1⟩
      · exact .inl ⟨h1, h2, by omega⟩
theorem nodup_upP (n : Nat) (p : List Int → Bool) : ∀ m, (upP n p m).Nodup
  | 0 => by
    show ([] : List (List Int)).Nodup
    simp
  | m + 1 => by
    refine List.nodup_append.mpr ⟨nodup_upP n p m, (nodup_allF n m).filter _, fun a ha b hb e => ?_⟩
    have h1 := (mem_upP.mp ha).2.2
    have h2 := (mem_allF.mp (List.mem_filter.mp hb).1).2
    rw [e] at h1
    omega
/-- what is new -/
def isNew (laid : List (List Int)) (fc g : List Int) : Bool := hasAll fc g && !inSome g laid
theorem new_word {n k : Nat} {fc : List Int} {laid : List (List Int)} (hf : RisB n fc) (hk : fc.length = k) : sortL (upP n (isNew laid fc) (k + 1)) = newParts laid fc := by
  refine sorted_eq ((List.perm_ext_iff_of_nodup ((sortL_perm _).nodup_iff.mpr (nodup_upP _ _ _)) ?_).mpr fun g => ?_) (sortL_pw _) (filter_sorted _)
  · unfold newParts
    exact ((sortL_perm _).nodup_iff.mpr (subs_nodup _ fc rfl hf.nd)).filter _
  · unfold newParts
    rw [(sortL_perm _).mem_iff, mem_upP, List.mem_filter, (sortL_perm _).mem_iff, mem_subs]
    unfold isNew
    rw [Bool.and_eq_true, hasAll_true]
    constructor
    · rintro ⟨⟨h1, h2⟩, h3, h4⟩
      exact ⟨sub_of hf.1 h3.1 h1, h2⟩
    · rintro ⟨h1, h2⟩
      have hl := h1.length_le
      exact ⟨⟨fun p hp => h1.subset hp, h2⟩, ⟨hf.1.sublist h1, fun i hi => hf.2 i (h1.subset hi)⟩, by omega⟩
theorem eqv_nil10 (gs : List (List Int)) : PyData.eqv (.list (gs.map tD)) (.list (iD [])) = gs.isEmpty := by
  rw [PyData.eqv]
  cases gs <;> rfl
section
variable {P : Program} {w : World} {K : PySem.W.Frag} {mg : Str → Option Value} {base : Heap} {Ps : Tbs} {H H' H0 : Hp} {k : Nat} {f c : Addr} {fd : FuncData}
theorem CP.putS10 {β : Type} {F : Hp → V → β → Prop} {D : Addr} {out : List β} {n : Nat} (S : Stb K Ps F) (hD : H0 D = none) (hn : n ≤ 10000) {y : V} {z : β} (h : CP Ps F H0 D out n H) (hF : F H y z) :
    ∃ acc, H D = some (.lst acc) ∧ acc.length < sizeLine ∧ CP Ps F H0 D (out ++ [z]) (n + 1) (upd H D (.lst (acc ++ [y]))) := by
  obtain ⟨ys, h1, h2, h3⟩ := h.at_
  refine ⟨ys, h1, Nat.lt_of_le_of_lt (Nat.le_trans h3 hn) (by rw [sizeLine_eq]; decide), ⟨h.ext.write hD h1 (fun q z => by cases z), ys ++ [y], upd_same, ?_, ?_⟩⟩
  · exact paired_snoc (L2.Paired.mapP h2 fun _ _ z => S.put _ _ _ _ _ _ h1 z) (S.put _ _ _ _ _ _ h1 hF)
  · rw [List.length_append]
    exact Nat.add_le_add_right h3 1
def spNewL (K : PySem.W.Frag) (Ps : Tbs) : Sp := fun vs H Q _ => ∃ (x y z : V) (n kk : Int) (fss laid : List (List Int)) (fc : List Int), vs = [x, y, z] ∧ Stk K H x n kk fss ∧ StkOk n kk fss ∧ LstT K H y laid ∧ TupI K H z fc ∧ fc ∈ fss ∧ laid.length ≤ 100 ∧ (∀ g ∈ laid, g.length ≤ 100) ∧ Tb Ps H ∧ ∀ v H', Ext Ps H H' → LstT K H' v (newParts laid fc) → Q v H'
theorem ok_newL {fA cA fW cW : Addr} {fdA fdW : FuncData} (D : Def K mg "_law_new" sNewL ["_law_stack_here", "_law_faces", "_law_face"] f fd c) (DA : Def K mg "_law_all" sAll ["_law_n", "_law_k"] fA fdA cA) (GA : FnOk P w K mg base CX0 (k) fA fdA ["_law_n", "_law_k"] (spAll K Ps)) (DW : Def K mg "_law_within" sWithinL ["_law_part", "_law_face"] fW fdW cW) (GW : FnOk P w K mg base CX0 (k) fW fdW ["_law_part", "_law_face"] (spWithinL K Ps)) (mr : mg "range" = none) (ms : mg "sorted" = none) :
    FnOk P w K mg base CX0 (k + 1) f fd ["_law_stack_here", "_law_faces", "_law_face"] (spNewL K Ps) := by
  refine D.ok (k := k) scNewL (fun vs H Q E h => ?_) (fun A outer s H vs Q E hr h => ?_)
  · obtain ⟨x, y, z, n, kk, fss, laid, fc, rfl, _⟩ := h
    rfl
  · obtain ⟨_, _, x, n, kk, fss, laid, fc, rfl, ⟨b, fa, xs, rfl, h1, h2, h3⟩, S, ⟨l, lys, rfl, hL, hp⟩, hI, hfm, l100, g100, ht, q⟩ := h
    refine ⟨_, (pss_cons (ps_set (i := 3) scNewL.nd rfl (.inl rfl) (pe_lst pa_nil)) (pss_cons (ps_for PassesOwn.never rfl (pi_range1 (by rfl) mr (pa_cons (pe_op op_add (pe_ix ix_tup (pv 0) pe_int (fun _ _ => rfl)) pe_int) pa_nil)) (pg_name (i := 4) scNewL.nd rfl (.inl rfl)) (pss_one (ps_for PassesOwn.never rfl (pi_list (pcl DA GA hr (pa_cons (pe_ix ix_tup (pv 0) pe_int (fun _ _ => rfl)) (pa_cons (pv 4) pa_nil)))) (pg_name (i := 5) scNewL.nd rfl (.inr rfl)) (pss_one (ps_if (pt_val (pcl DW GW hr (pa_cons (pv 5) (pa_cons (pv 2) pa_nil)))) (pss_one (ps_if (pt_cmpR (op_eqD hr.units) (pe_lc (own := [("_law_one", 6)]) (g := gName 6) (by rfl) scNewL.nd (pi_list (pv 1)) (blkOk_by (N := ["_law_stack_here", "_law_faces", "_law_face", "_law_found", "_law_many", "_law_part", "_law_one"]) (sc := defScope sNewL) (by decide +kernel)) (fun _ _ _ _ _ => pg_name (i := 6) scNewL.nd rfl (Or.inl rfl)) (fun _ _ _ _ _ => (pts_one (pt_val (pcl DW GW hr (pa_cons (pv 5) (pa_cons (pv 6) pa_nil)))))) (fun _ _ _ _ _ => (pv 6))) (pe_lst pa_nil) (nomark _)) (pss_one (ps_expr (pe_bm PySem.F.plainAttrs_list PySem.F.slot_list_append PySem.F.type_list_append mt_append (pv 3) (pa_cons (pv 5) pa_nil)))) pss_nil)) pss_nil))))) (pss_one (ps_ret (pe_callB (cr_sortL hr.units) (by rfl) ms (by decide +kernel) (pa_cons (pv 3) pa_nil)))))), ?_⟩
    obtain ⟨nN, hnN⟩ := Int.eq_ofNat_of_zero_le (show 0 ≤ n by have := S.n1; omega)
    obtain ⟨kN, hkN⟩ := Int.eq_ofNat_of_zero_le S.k0
    have hn8 := S.n8
    have hk4 := S.k4
    have hf4 := S.len4 fc hfm
    have hfR : RisB nN fc := ⟨S.ris fc hfm, fun z hz => by have := S.bel fc hfm z hz; omega⟩
    have hfk : fc.length = kN := by have := S.len fc hfm; omega
    have hll := Paired.length hp
    refine ⟨Nat.zero_le _, fun dd hdd => ?_⟩
    have C0 : CP Ps (TupI K) H dd (upP nN (isNew laid fc) 0) 0 (upd H dd (.lst [])) := CP.start ht hdd
    generalize upd H dd (.lst []) = H6 at *
    refine ⟨.ref b, rfl, b, _, 1, .int kk, rfl, rfl, C0.ext.sqT h1, atI_nat (j := 1) rfl, kk, 1, rfl, rfl, kk + 1, rfl, by omega, by omega, for_range (lo := 0) (n := (kk + 1).toNat) (fun j σ HX => CP Ps (TupI K) H dd (upP nN (isNew laid fc) j) (j * 256) HX ∧ ∃ y4 y5 y6 : Option V, σ = [some (.ref b), some (.ref l), some x, some (.ref dd), y4, y5, y6])
      ⟨by simpa using C0, _, _, _, rfl⟩ (fun j σ HX hj p => ?_) (fun σ HX p => ?_)⟩
    · obtain ⟨C, y4, y5, y6, rfl⟩ := p
      have hj' : j < (kk + 1).toNat := hj
      have eX := C.ext
      refine ⟨.ref b, rfl, b, _, 0, .int n, rfl, rfl, eX.sqT h1, atI_nat (j := 0) rfl, .int (0 + j), rfl, nN, j, by rw [hnN, Int.zero_add]; rfl, by omega, by omega, C.ext.tb, fun al as HY eY nal hal hap => ⟨al, rfl, ⟨_, .inl (.inl hal)⟩, ?_⟩⟩
      have hal256 : as.length ≤ 256 := by
        rw [Paired.length hap]
        exact Nat.le_trans (allF_len nN j) (Nat.pow_le_pow_right (by omega) (show nN ≤ 8 by omega))
      have ndal : al ≠ dd := by
        intro q2
        obtain ⟨ys, q3, _⟩ := C.at_
        rw [q2, q3] at nal
        cases nal
      refine for_list (K := K) (a := al) (xs := as) (fun u σ HZ => CP Ps (TupI K) H dd (upP nN (isNew laid fc) j ++ ((allF nN j).take u).filter (isNew laid fc)) (j * 256 + u) HZ ∧ HZ al = some (.lst as) ∧ Paired (TupI K HZ) as (allF nN j) ∧ ∃ y5 y6 : Option V, σ = [some (.ref b), some (.ref l), some x, some (.ref dd), some (.int (0 + j)), y5, y6])
        ⟨by simpa using C.skip (stbT (K := K)) eY, hal, hap, _, _, rfl⟩ (fun u σ HZ _ p => .inl (.inl p.2.1)) (fun u z σ HZ hz p => ?_) (fun σ HZ p => ?_)
      · obtain ⟨CZ, hz1, hz2, y5, y6, rfl⟩ := p
        have hu : u < as.length := (List.getElem?_eq_some_iff.mp hz).1
        obtain ⟨g, hg, hIg⟩ := paired_get hz2 hz
        have hgl := (mem_allF.mp (List.mem_of_getElem? hg)).2
        have eZ := CZ.ext
        have hft := filt_take (isNew laid fc) hg
        refine ⟨z, rfl, x, rfl, z, x, g, fc, rfl, Lf.TupI.seq hIg, Lf.TupI.seq (eZ.tupI hI), by omega, eZ.tb, fun HA eA => ⟨_, rfl, ite2 (fun hb1 => ?_) (fun hb1 => ?_)⟩⟩
        · have EA := eZ.trans eA
          have CA := CZ.skip (stbT (K := K)) eA
          have hIA := eA.tupI hIg
          refine ⟨.ref l, rfl, l, rfl, ⟨_, EA.sqL hL⟩, fun D2 hD2 => lc_list (K := K) (a := l) (xs := lys) (fun i H5 => CP Ps (TupI K) HA D2 ((laid.take i).filter fun h => hasAll h g) i H5) (CP.start EA.tb hD2) (fun i H5 _ p5 => p5.ext.sqL (EA.sqL hL)) (fun i u2 H5 hu2 p5 => ?_) (fun H5 p5 => ?_)⟩
          · obtain ⟨h, hh, hIh⟩ := paired_get hp hu2
            have hi : i < lys.length := (List.getElem?_eq_some_iff.mp hu2).1
            have E5 := EA.trans p5.ext
            have hl5 := g100 h (List.mem_of_getElem? hh)
            have ef := filt_take (fun h : List Int => hasAll h g) hh
            refine ⟨rfl, z, rfl, u2, rfl, z, u2, g, h, rfl, Lf.TupI.seq (p5.ext.tupI hIA), Lf.TupI.seq (E5.tupI hIh), by omega, p5.ext.tb, fun H7 e7 => ⟨_, rfl, ite2 (fun hc => ?_) (fun hc => ?_)⟩⟩
            · rw [if_pos hc] at ef
              obtain ⟨acc, r1, r2, r3⟩ := CP.put (stbT (K := K)) hD2 (by omega) (p5.skip (stbT (K := K)) e7) (e7.tupI (E5.tupI hIh))
              exact ⟨u2, rfl, acc, r1, r2, by rw [ef]; exact r3⟩
            · rw [if_neg hc, List.append_nil] at ef
              rw [ef]
              exact (p5.skip (stbT (K := K)) e7).mono (Nat.le_succ i)
          rw [hll, List.take_length] at p5
          obtain ⟨rs, g1, g2, g3⟩ := p5.at_
          have C5 := CA.skip (stbT (K := K)) p5.ext
          refine ⟨Nat.zero_le _, fun u2 nu2 => ?_⟩
          have x9 := Ext.new (o := .lst []) p5.ext.tb nu2
          refine ⟨_, .list (iD []), dp_lst ⟨D2, rs, rfl, .inl (.inl (x9.lst g1)), x9.tups g2⟩, .lst (xs := []) (.inl (.inl upd_same)) .nil, shp_tups _, shp_list [], _, rfl, ?_⟩
          rw [eqv_nil10]
          have E9 := eA.trans (p5.ext.trans x9)
          generalize upd H5 u2 (.lst []) = H9 at *
          have C9 := C5.skip (stbT (K := K)) x9
          have ein : isNew laid fc g = (laid.filter fun h => hasAll h g).isEmpty := by
            unfold isNew
            rw [← inSome_filt, show hasAll fc g = true from hb1, Bool.not_not, Bool.true_and]
          refine ite2 (fun hc => ?_) (fun hc => ?_)
          · obtain ⟨acc, r1, r2, r3⟩ := CP.putS10 (stbT (K := K)) hdd (by omega) C9 (E9.tupI hIg)
            refine ⟨.ref dd, rfl, .inl ⟨rfl, _, .inl (.inl r1)⟩, z, rfl, dd, acc, z, rfl, rfl, r1, r2, ?_, by rw [upd_ne ndal]; exact E9.lst hz1, L2.Paired.mapP (E9.tups hz2) fun _ _ z => tupI_put r1 z, _, _, rfl⟩
            rw [hft, if_pos (ein.trans hc), ← List.append_assoc]
            exact r3
          · rw [hft, if_neg (fun w => hc (ein.symm.trans w)), List.append_nil]
            exact ⟨C9.mono (by omega), E9.lst hz1, E9.tups hz2, _, _, rfl⟩
        · have ein : isNew laid fc g = false := by
            unfold isNew
            rw [show hasAll fc g = false from Bool.eq_false_iff.mpr hb1, Bool.false_and]
          rw [hft, if_neg (by rw [ein]; decide), List.append_nil]
          exact ⟨(CZ.skip (stbT (K := K)) eA).mono (by omega), eA.lst hz1, eA.tups hz2, _, _, rfl⟩
      · obtain ⟨CZ, hz1, hz2, y5, y6, rfl⟩ := p
        rw [Paired.length hap, List.take_length] at CZ
        have hl2 : (allF nN j).length ≤ 256 := by
          rw [← Paired.length hap]
          exact hal256
        exact ⟨CZ.mono (by omega), _, _, _, rfl⟩
    · obtain ⟨C, y4, y5, y6, rfl⟩ := p
      have ekk : (kk + 1).toNat = kN + 1 := by omega
      rw [ekk] at C
      obtain ⟨ds, d1, d2, d3⟩ := C.at_
      refine ⟨.ref dd, rfl, dd, ds, _, rfl, .inl (.inl d1), d2, fun us sl hus _ hsl => ?_⟩
      have eS := Ext.new (o := .lst us) C.ext.tb hsl
      have hus' := eS.tups hus
      rw [new_word hfR hfk] at hus'
      exact q _ _ (C.ext.trans eS) ⟨sl, us, rfl, .inl (.inl upd_same), hus'⟩
end
end Lf

set_option maxHeartbeats 2000000
namespace Lf
open PySem PySem.Spec PyProof.Rows L2 GxR GxA SrT
/-! ### a thing that has no list at the pen stays -/
section
variable {K : PySem.W.Frag} {Ps : Tbs} {H H' : Hp} {F : Addr → Prop} {a : Addr}
mutual
theorem Epn.th (e : Epn Ps a H H') (hF : ∀ b, F b → b ≠ a) : ∀ {d : PyData} {x : V}, ThF K H F x d → ThF K H' F x d
  | .none, _, h => by cases h; exact .non
  | .bool b, _, h => by cases h; exact .bl b
  | .int i, _, h => by cases h; exact .int i
  | .str y, _, h => by cases h; exact .str y
  | .list ds, _, h => by
    cases h with
    | lst hf hs ha => exact .lst hf (e.sqL (hF _ hf) hs) (Epn.thAll e hF ha)
  | .tuple ds, _, h => by
    cases h with
    | tup hs ha => exact .tup (e.sqT hs) (Epn.thAll e hF ha)
  | .dict _, _, h => by
    cases h with
    | dic hf hd => exact .dic hf (e.old _ _ (hF _ hf) hd fun q z => by cases z)
theorem Epn.thAll (e : Epn Ps a H H') (hF : ∀ b, F b → b ≠ a) : ∀ {ds : List PyData} {xs : List V}, ThAllF K H F xs ds → ThAllF K H' F xs ds
  | [], _, h => by cases h; exact .nil
  | d :: ds, _, h => by
    cases h with
    | cons h1 h2 => exact .cons (Epn.th e hF h1) (Epn.thAll e hF h2)
end
end
theorem ne_no {x y : V} (e : x = y) : V.bl (!decide (x = y)) = V.bl false := by
  rw [decide_eq_true e]
  rfl
end Lf

set_option maxHeartbeats 4000000
namespace Lf
open PySem PySem.Spec PyProof.Rows L2 GxR GxA SrT EnT
abbrev sRight10 : Stmt := topS 59
theorem scRight10 : FnScope ["_law_stack_here", "_law_lot_here", "_law_faces", "_law_number", "_law_face", "_law_due", "_law_turn", "_law_found"] ["_law_stack_here", "_law_lot_here"] (defScope sRight10) := ⟨rfl, rfl, rfl, by decide +kernel, rfl, by decide +kernel, by decide +kernel⟩
abbrev qualR10 : Str := (envOfC "_law_right" (defScope sRight10) 0 0 (.ref 0)).qual ++ "<lambda>"
section
variable {P : Program} {w : World} {K : PySem.W.Frag} {mg : Str → Option Value} {base : Heap} {Ps : Tbs} {H H' H0 : Hp} {k : Nat} {f c : Addr} {fd : FuncData}
variable {C : Nat → Addr} {CY CN PL : Addr}
theorem wid_tD {ns : List Int} (h : ns.length ≤ 1000) : wide (tD ns) = true := by
  show wide (.tuple (iD ns)) = true
  rw [wide, wide_ints, Bool.and_true]
  exact decide_eq_true (by rw [List.length_map]; exact h)
theorem lay_tD (ns : List Int) : (tD ns).canLay0 = true := by
  show (PyData.tuple (iD ns)).canLay0 = true
  rw [PyData.canLay0]
  exact lay_ints ns
theorem dep_tD (ns : List Int) : (tD ns).depth ≤ 4 := by
  show (PyData.tuple (iD ns)).depth ≤ 4
  rw [PyData.depth, dep_ints]
  decide
theorem may_in {n kk : Int} {fss : List (List Int)} (S : StkOk n kk fss) {ns fc : List Int} {i : Nat} (bel : ∀ j ∈ ns, 0 ≤ j ∧ j < (fss.length : Int)) (hf : fss[i]? = some fc) : (!decide ((i : Int) ∈ ns) && liesOn (facesAt fss ns) fc) = mayL kk (facesAt fss ns) fc := by
  have hfm := List.mem_of_getElem? hf
  have f4 : ∀ g ∈ facesAt fss ns, g ∈ fss := facesAt_4 S bel
  have e := may_lies (kk := kk) (fss := facesAt fss ns) (fc := fc) (fun g hg => S.len g (f4 g hg)) (fun g hg => S.ris g (f4 g hg)) (S.len fc hfm) (S.ris fc hfm)
  by_cases h : (i : Int) ∈ ns
  · have hm : fc ∈ facesAt fss ns := by
      unfold facesAt
      refine List.mem_map.mpr ⟨(i : Int), h, ?_⟩
      rw [Int.toNat_natCast, List.getD_eq_getElem?_getD, hf]
      rfl
    rw [decide_eq_true h]
    show false = _
    unfold mayL
    rw [decide_eq_true hm, Bool.not_true, Bool.and_false]
  · rw [decide_eq_false h, e]
    rfl
theorem new_sz {laid : List (List Int)} {fc : List Int} (h4 : fc.length ≤ 4) : (newParts laid fc).length ≤ 16 ∧ ∀ g ∈ newParts laid fc, g.length ≤ 1000 := by
  have h16 := subs_le h4 fc.length
  rw [List.take_length] at h16
  unfold newParts
  refine ⟨Nat.le_trans (List.length_filter_le _ _) (by rw [(sortL_perm _).length_eq]; exact h16), fun g hg => ?_⟩
  have := (mem_subs.mp ((sortL_perm _).mem_iff.mp (List.mem_filter.mp hg).1)).length_le
  omega
def spRight10 (K : PySem.W.Frag) (Ps : Tbs) : Sp := fun vs H Q _ => ∃ (x y : V) (n kk : Int) (fss : List (List Int)) (ns : List Int), vs = [x, y] ∧ Stk K H x n kk fss ∧ StkOk n kk fss ∧ TupI K H y ns ∧ LotOk fss.length ns ∧ Tb Ps H ∧ ∀ H', Ext Ps H H' → Q (.bl true) H'
theorem ok_right10 {fT cT fM cM fS cS fL cL fB cB fG cG fN cN fW cW fR cR fK1 cK1 : Addr} {fdT fdM fdS fdL fdB fdG fdN fdW fdR fdK1 : FuncData} (D : Def K mg "_law_right" sRight10 ["_law_stack_here", "_law_lot_here"] f fd c) (DT : Def K mg "_law_at" sAt ["_law_stack_here", "_law_numbers"] fT fdT cT) (GT : FnOk P w K mg base CX0 (k + 2) fT fdT ["_law_stack_here", "_law_numbers"] (spAtT K Ps)) (DM : Def K mg "_law_may" sMay ["_law_k", "_law_faces", "_law_face"] fM fdM cM) (GM : FnOk P w K mg base CX0 (k + 2) fM fdM ["_law_k", "_law_faces", "_law_face"] (spMayE K Ps)) (DS : Def K mg "_law_same" sSame ["_law_found", "_law_due"] fS fdS cS) (GS : FnOk P w K mg base CX0 (k + 2) fS fdS ["_law_found", "_law_due"] (spSame K Ps 5)) (DL : Def K mg "may_lay" sMayLay ["stack", "lot", "number"] fL fdL cL) (GL : FnOk P w K mg base CX0 (k + 2) fL fdL ["stack", "lot", "number"] (spMayA K Ps)) (DB : Def K mg "brought" sBrought ["stack", "lot", "number"] fB fdB cB) (GB : FnOk P w K mg base CX0 (k + 2) fB fdB ["stack", "lot", "number"] (spBrought K Ps)) (DG : Def K mg "_law_brought" sBroughtL ["_law_faces", "_law_face"] fG fdG cG) (GG : FnOk P w K mg base CX0 (k + 2) fG fdG ["_law_faces", "_law_face"] (spBroughtL K Ps)) (DN : Def K mg "new_parts" sNewParts ["stack", "lot", "number"] fN fdN cN) (GN : FnOk P w K mg base CX0 (k + 2) fN fdN ["stack", "lot", "number"] (spNewPartsN K Ps)) (DW : Def K mg "_law_new" sNewL ["_law_stack_here", "_law_faces", "_law_face"] fW fdW cW) (GW : FnOk P w K mg base CX0 (k + 2) fW fdW ["_law_stack_here", "_law_faces", "_law_face"] (spNewL K Ps))
    (GBX : FnOk P w K mg base (L2.CX P w) k fB fdB ["stack", "lot", "number"] (spInX K Ps CN)) (GNX : FnOk P w K mg base (L2.CX P w) k fN fdN ["stack", "lot", "number"] (spInX K Ps CN)) (DR : Def K mg "_law_refused" sRefused ["_law_call"] fR fdR cR) (DKd : Def K mg "_law_kinds" sKinds ["_law_e"] fK1 fdK1 cK1) (G : Kinds mg C) (gL : mg "LayError" = some (.ref CY)) (KN : Kind K C CY 1 CN)
    (TL : LamX.TabB base mg c PL) (hmT : (PL, qualR10) ∈ Ps.lam) (mi : mg "isinstance" = none) (mv : mg "ValueError" = none) (me : mg "enumerate" = none) (mr : mg "range" = none) : FnOk P w K mg base CX0 (k + 2 + 1) f fd ["_law_stack_here", "_law_lot_here"] (spRight10 K Ps) := by
  refine D.ok (k := k + 2) scRight10 (fun vs H Q E h => ?_) (fun A outer s H vs Q E hr h => ?_)
  · obtain ⟨x, y, n, kk, fss, ns, rfl, _⟩ := h
    rfl
  · obtain ⟨_, _, n, kk, fss, ns, rfl, hS, S, hy, L, ht, q⟩ := h
    obtain ⟨b, fa, xs, rfl, h1, h2, h3⟩ := id hS
    obtain ⟨lt, rfl, hL⟩ := id hy
    have hlen := Paired.length h3
    have l70 := S.l70
    have lns := L.len
    have hk4 := S.k4
    refine ⟨_, (pss_cons (ps_set (i := 2) scRight10.nd rfl (.inl rfl) (pcl DT GT hr (pa_cons (pv 0) (pa_cons (pv 1) pa_nil)))) (pss_cons (ps_for PassesOwn.never rfl (pi_enumT (by rfl) me (pa_cons (pe_ix ix_tup (pv 0) pe_int (fun _ _ => rfl)) pa_nil)) (pg_tup rfl (pgs_cons (pg_name (i := 3) scRight10.nd rfl (.inr rfl)) (pgs_cons (pg_name (i := 4) scRight10.nd rfl (.inl rfl)) pgs_nil))) (pss_cons (ps_set (i := 5) scRight10.nd rfl (.inl rfl) (pcl DM GM hr (pa_cons (pe_ix (show IxR _ (rIxT K) from ix_tup) (pv 0) pe_int (fun _ _ => rfl)) (pa_cons (pv 2) (pa_cons (pv 4) pa_nil))))) (pss_cons (ps_if (pt_not (pt_val (pcl DS GS hr (pa_cons (pcl DL GL hr (pa_cons (pv 0) (pa_cons (pv 1) (pa_cons (pv 3) pa_nil)))) (pa_cons (pv 5) pa_nil))))) (pss_one (ps_ret pe_bl)) pss_nil) (pss_one (ps_if (pt_cmpR (show OpR _ _ (rIn K false) from op_in_seq) (pv 3) (pv 1) (by with_unfolding_all rfl)) (pss_cons (ps_if (pt_cmpR op_ne (pe_lamX (k := k) DR scRefused (refused_gives (Ps := Ps) (k := k) DKd G gL mi mv hr) TL hmT hr (show LamX.LamS (defScope sRight10) _ from LamX.lamS_by (by decide +kernel)) (fun A outer s H E f d hr2 tk => pclX DB GBX hr2 tk (pa_cons (pv 0) (pa_cons (pv 1) (pa_cons (pv 3) pa_nil))))) pe_str (nomark _)) (pss_one (ps_ret pe_bl)) pss_nil) (pss_one (ps_if (pt_cmpR op_ne (pe_lamX (k := k) DR scRefused (refused_gives (Ps := Ps) (k := k) DKd G gL mi mv hr) TL hmT hr (show LamX.LamS (defScope sRight10) _ from LamX.lamS_by (by decide +kernel)) (fun A outer s H E f d hr2 tk => pclX DN GNX hr2 tk (pa_cons (pv 0) (pa_cons (pv 1) (pa_cons (pv 3) pa_nil))))) pe_str (nomark _)) (pss_one (ps_ret pe_bl)) pss_nil))) (pss_cons (ps_if (pt_not (pt_val (pcl DS GS hr (pa_cons (pcl DB GB hr (pa_cons (pv 0) (pa_cons (pv 1) (pa_cons (pv 3) pa_nil)))) (pa_cons (pcl DG GG hr (pa_cons (pv 2) (pa_cons (pv 4) pa_nil))) pa_nil))))) (pss_one (ps_ret pe_bl)) pss_nil) (pss_one (ps_for PassesOwn.never rfl (pi_range1 (by rfl) mr (pa_cons pe_int pa_nil)) (pg_name (i := 6) scRight10.nd rfl (.inl rfl)) (pss_cons (ps_set (i := 7) scRight10.nd rfl (.inl rfl) (pcl DN GN hr (pa_cons (pv 0) (pa_cons (pv 1) (pa_cons (pv 3) pa_nil))))) (pss_cons (ps_if (pt_not (pt_val (pcl DS GS hr (pa_cons (pv 7) (pa_cons (pcl DW GW hr (pa_cons (pv 0) (pa_cons (pv 2) (pa_cons (pv 4) pa_nil)))) pa_nil))))) (pss_one (ps_ret pe_bl)) pss_nil) (pss_one (ps_expr (pe_bm PySem.F.plainAttrs_list PySem.F.slot_list_append PySem.F.type_list_append mt_append (pv 7) (pa_cons pe_non pa_nil)))))))))))))) (pss_one (ps_ret pe_bl)))), ?_⟩
    refine tseq_intro fun R hR => ?_
    refine ⟨.ref b, rfl, .ref lt, rfl, .ref b, .ref lt, n, kk, fss, ns, rfl, hS, hy, L.bel, L.len, ht, fun l ys H1 e1 nl hl hp => ?_⟩
    show R [some (.ref b), some (.ref lt), some (.ref l), none, none, none, none, none] H1
    rw [hR]
    clear hR
    refine tseq_intro fun R hR => ?_
    refine ⟨.ref b, rfl, b, _, 2, .ref fa, rfl, rfl, e1.sqT h1, at2, fa, xs, rfl, e1.sqT h2, for_enT (K := K) (a := fa) (xs := xs) (fun i σ H3 => Ext Ps H1 H3 ∧ ∃ y3 y4 y5 y6 y7 : Option V, σ = [some (.ref b), some (.ref lt), some (.ref l), y3, y4, y5, y6, y7])
      ⟨Ext.refl e1.tb, _, _, _, _, _, rfl⟩ (fun i σ H3 p => p.1.sqT (e1.sqT h2)) (fun i x σ H3 T hx p hT => ?_) (fun σ H3 p => ?_)⟩
    · obtain ⟨e3, y3, y4, y5, y6, y7, rfl⟩ := p
      have eT := Ext.new (o := .tup [.int (i : Nat), x]) e3.tb hT
      have e4 := e3.trans eT
      have hT4 : SqT K (upd H3 T (.tup [.int (i : Nat), x])) T [.int (i : Nat), x] := .inl (.inl upd_same)
      generalize upd H3 T (.tup [.int (i : Nat), x]) = H4 at *
      have hi : i < xs.length := (List.getElem?_eq_some_iff.mp hx).1
      obtain ⟨fc, hfc, hI⟩ := paired_get h3 hx
      have hfm := List.mem_of_getElem? hfc
      have hf4 := S.len4 fc hfm
      refine ⟨T, _, rfl, hT4, rfl, _, _, rfl, _, _, rfl, rfl, ?_⟩
      have E4 := e1.trans e4
      have hfc' : fss[(i : Int).toNat]? = some fc := by rw [Int.toNat_natCast]; exact hfc
      have hfl : (facesAt fss ns).length ≤ 100 := by rw [facesAt_len]; exact lns
      have hg100 : ∀ g ∈ facesAt fss ns, g.length ≤ 100 := fun g hg => by have := S.len4 g (facesAt_4 S L.bel g hg); omega
      have hlX : ∀ HX, Ext Ps H1 HX → LstT K HX (.ref l) (facesAt fss ns) := fun HX e => ⟨l, ys, rfl, .inl (.inl (e.lst hl)), e.tups hp⟩
      refine tseq_intro fun R hR => ?_
      refine ⟨.ref b, rfl, b, _, 1, .int kk, rfl, rfl, E4.sqT h1, atI_nat (j := 1) rfl, .ref l, rfl, x, rfl, kk, .ref l, x, _, fc, rfl, hlX _ e4, E4.tupI hI, hfl, by omega, e4.tb, fun H5 e5 => ?_⟩
      show R [some (.ref b), some (.ref lt), some (.ref l), some (.int (i : Nat)), some x, some (.bl (mayL kk (facesAt fss ns) fc)), y6, y7] H5
      rw [hR]
      clear hR
      have x5 := e4.trans e5
      have X5 := e1.trans x5
      refine tseq_intro fun R hR => ?_
      refine ⟨.ref b, rfl, .ref lt, rfl, .int (i : Nat), rfl, .ref b, .ref lt, n, kk, (i : Int), fss, ns, fc, rfl, X5.stk hS, S, X5.tupI hy, L, by omega, by omega, hfc', x5.tb, fun H6 e6 => ?_⟩
      rw [may_in S L.bel hfc]
      refine ⟨.bl (mayL kk (facesAt fss ns) fc), rfl, .bl _, .bl _, .bool (mayL kk (facesAt fss ns) fc), rfl, .bl _, .bl _, rfl, rfl, by simp [PyData.depth], by decide, e6.tb, fun H7 e7 => ⟨true, rfl, iteF ?_⟩⟩
      show R [some (.ref b), some (.ref lt), some (.ref l), some (.int (i : Nat)), some x, some (.bl (mayL kk (facesAt fss ns) fc)), y6, y7] H7
      rw [hR]
      clear hR
      have x7 := x5.trans (e6.trans e7)
      have X7 := e1.trans x7
      refine ⟨.int (i : Nat), rfl, .ref lt, rfl, lt, _, rfl, .inr (X7.sqT hL), rfl, flat_ints ns, _, rfl, ?_⟩
      show if (inV (.int (i : Int)) (ns.map V.int)) = true then _ else _
      rw [inV_ints]
      refine ite2 (fun hc => ?_) (fun hc => ?_)
      · have hin : (i : Int) ∈ ns := of_decide_eq_true hc
        refine tseq_intro fun R hR => ?_
        refine ⟨x7.tb, fun H8 e8 => ⟨.ref b, rfl, .ref lt, rfl, .int (i : Nat), rfl, .ref b, .ref lt, n, kk, (i : Int), fss, ns, rfl, (X7.trans e8).stk hS, S, (X7.trans e8).tupI hy, L, by omega, by omega, hin, e8.tb, fun H9 e9 => ⟨rfl, 1, CN, rfl, KN, e9.tb, fun HA eA => ⟨rfl, false, ne_no rfl, iteF ?_⟩⟩⟩⟩
        show R [some (.ref b), some (.ref lt), some (.ref l), some (.int (i : Nat)), some x, some (.bl (mayL kk (facesAt fss ns) fc)), y6, y7] HA
        rw [hR]
        clear hR
        have xA := x7.trans (e8.trans (e9.trans eA))
        have XA := e1.trans xA
        refine ⟨xA.tb, fun HB eB => ⟨.ref b, rfl, .ref lt, rfl, .int (i : Nat), rfl, .ref b, .ref lt, n, kk, (i : Int), fss, ns, rfl, (XA.trans eB).stk hS, S, (XA.trans eB).tupI hy, L, by omega, by omega, hin, eB.tb, fun HC eC => ⟨rfl, 1, CN, rfl, KN, eC.tb, fun HD eD => ⟨rfl, false, ne_no rfl, iteF ?_⟩⟩⟩⟩
        exact ⟨xA.trans (eB.trans (eC.trans eD)), _, _, _, _, _, rfl⟩
      · have hout : (i : Int) ∉ ns := fun z => hc (decide_eq_true z)
        have ask : ∀ HX, Ext Ps H1 HX → Ask K Ps HX (.ref b) (.ref lt) (i : Int) n kk fss ns := fun HX e => ⟨(e1.trans e).stk hS, S, (e1.trans e).tupI hy, L, by omega, by omega, hout, e.tb⟩
        have hbl : (brOn (facesAt fss ns) fc).length ≤ 1000 := Nat.le_trans (List.length_filter_le _ _) (by omega)
        refine tseq_intro fun R hR => ?_
        refine ⟨.ref b, rfl, .ref lt, rfl, .int (i : Nat), rfl, .ref b, .ref lt, n, kk, (i : Int), fss, ns, fc, rfl, ask _ x7, hfc', fun v H8 e8 hv => ?_⟩
        have x8 := x7.trans e8
        refine ⟨.ref l, rfl, x, rfl, .ref l, x, _, fc, rfl, hlX _ x8, (e1.trans x8).tupI hI, by omega, hfl, x8.tb, fun v2 H9 e9 hv2 => ?_⟩
        have x9 := x8.trans e9
        refine ⟨v, v2, tD (brOn (facesAt fss ns) fc), rfl, dp_tup (e9.tupI hv), dp_tup hv2, lay_tD _, wid_tD hbl, dep_tD _, by decide, x9.tb, fun HA eA => ⟨true, rfl, iteF ?_⟩⟩
        show R [some (.ref b), some (.ref lt), some (.ref l), some (.int (i : Nat)), some x, some (.bl (mayL kk (facesAt fss ns) fc)), y6, y7] HA
        rw [hR]
        clear hR
        have xA := x9.trans eA
        obtain ⟨n16, g16⟩ := new_sz (laid := facesAt fss ns) hf4
        refine ⟨2, rfl, by decide, by decide, for_range (lo := 0) (n := (2 : Int).toNat) (fun t σ HY => Ext Ps HA HY ∧ ∃ y6 y7 : Option V, σ = [some (.ref b), some (.ref lt), some (.ref l), some (.int (i : Nat)), some x, some (.bl (mayL kk (facesAt fss ns) fc)), y6, y7]) ⟨Ext.refl xA.tb, _, _, rfl⟩ (fun t σ HY ht' p => ?_) (fun σ HY p => ?_)⟩
        · obtain ⟨eY, y6, y7, rfl⟩ := p
          have xY := xA.trans eY
          refine tseq_intro fun R hR => ?_
          refine ⟨.ref b, rfl, .ref lt, rfl, .int (i : Nat), rfl, .ref b, .ref lt, n, kk, (i : Int), fss, ns, fc, rfl, ask _ xY, hfc', fun ln zs HB eB nln hln hpn => ?_⟩
          show R [some (.ref b), some (.ref lt), some (.ref l), some (.int (i : Nat)), some x, some (.bl (mayL kk (facesAt fss ns) fc)), some (.int (0 + (t : Nat))), some (.ref ln)] HB
          rw [hR]
          clear hR
          have xB := xY.trans eB
          refine tseq_intro fun R hR => ?_
          refine ⟨.ref ln, rfl, .ref b, rfl, .ref l, rfl, x, rfl, .ref b, .ref l, x, n, kk, fss, _, fc, rfl, (e1.trans xB).stk hS, S, hlX _ xB, (e1.trans xB).tupI hI, hfm, hfl, hg100, xB.tb, fun v3 HC eC hv3 => ?_⟩
          refine ⟨.ref ln, v3, .list ((newParts (facesAt fss ns) fc).map tD), rfl, dp_lst ⟨ln, zs, rfl, .inl (.inl (eC.lst hln)), eC.tups hpn⟩, dp_lst hv3, by rw [PyData.canLay0]; exact lay_tups _, ?_, ?_, by decide, eC.tb, fun HD eD => ⟨true, rfl, iteF ?_⟩⟩
          · rw [wide, List.length_map, decide_eq_true (show (newParts (facesAt fss ns) fc).length ≤ 1000 by omega), Bool.true_and]
            exact wide_tups g16
          · rw [PyData.depth]
            exact Nat.le_trans (Nat.succ_le_succ (dep_tups (newParts (facesAt fss ns) fc))) (by decide)
          show R [some (.ref b), some (.ref lt), some (.ref l), some (.int (i : Nat)), some x, some (.bl (mayL kk (facesAt fss ns) fc)), some (.int (0 + (t : Nat))), some (.ref ln)] HD
          rw [hR]
          clear hR
          have eAD := eY.trans (eB.trans (eC.trans eD))
          have hlD := eD.lst (eC.lst hln)
          have nA : HA ln = none := eY.free nln
          have zl : zs.length ≤ 1000 := by rw [Paired.length hpn]; omega
          exact ⟨.ref ln, rfl, .inl ⟨rfl, _, .inl (.inl hlD)⟩, ln, zs, .non, rfl, rfl, hlD, small1000 zl, eAD.write nA hlD (fun q z => by cases z), _, _, rfl⟩
        · obtain ⟨eY, y6, y7, rfl⟩ := p
          exact ⟨xA.trans eY, _, _, _, _, _, rfl⟩
    · obtain ⟨e3, y3, y4, y5, y6, y7, rfl⟩ := p
      show R _ H3
      rw [hR]
      clear hR
      exact q _ (e1.trans e3)
end
end Lf

namespace Lf
open PySem L2
theorem getD_map' {ns : List Int} {i : Nat} (h : i < ns.length) : (ns.map V.int)[i]? = some (.int (ns.getD i 0)) := by
  rw [List.getElem?_map, List.getD_eq_getElem?_getD, List.getElem?_eq_getElem h]
  rfl
end Lf

set_option maxHeartbeats 8000000
namespace Lf
open PySem PySem.Spec PyProof.Rows L2 GxR GxA SrT EnT
abbrev sWide10 : Stmt := topS 60
theorem scWide10 : FnScope ["_law_some", "_law_face", "_law_wide", "_law_lot_here", "_law_number"] [] (defScope sWide10) := ⟨rfl, rfl, rfl, by decide +kernel, rfl, by decide +kernel, by decide +kernel⟩
theorem paired_app10 {α γ : Type} {G : α → γ → Prop} : ∀ {xs : List α} {ys : List γ} {us : List α} {vs : List γ}, Paired G xs ys → Paired G us vs → Paired G (xs ++ us) (ys ++ vs)
  | _, _, _, _, .nil, h => h
  | _, _, _, _, .cons a t, h => .cons a (paired_app10 t h)
def isW (f : List Int) : Bool := decide (f.getD 0 0 < 2) && !decide ((5 : Int) ∈ f)
def E25 : List (List Int) := (pickF 8 0 3).filter isW
theorem E25_all : (allF 8 3).filter isW = E25 := by rw [pick83]; rfl
def E27 : List (List Int) := E25 ++ [[3, 4, 5], [5, 6, 7]]
theorem E27_len : E27.length = 27 := by decide +kernel
theorem E25_len : E25.length = 25 := by decide +kernel
theorem E27_ok : StkOk 8 3 E27 := by
  refine ⟨by decide, by decide, by decide, by decide, by decide, by decide +kernel, by decide +kernel, by decide +kernel, by decide +kernel, by decide +kernel, by decide +kernel⟩
theorem lot_rng {m k : Nat} (h : k ≤ m) (h1 : k ≤ 100) : LotOk m (rng k) := by
  refine ⟨fun i hi => ?_, ?_, by rw [rng_len]; exact h1⟩
  · have := mem_rng hi
    omega
  · unfold rng
    rw [List.pairwise_map]
    exact List.pairwise_lt_range.imp fun z => by omega
def tst70 (j : Nat) : Bool := !decide (((pickF 8 0 4).getD j []).drop 1 = [5, 6, 7]) || decide (j = 69)
def out70 (i : Nat) : List Int := ((List.range i).filter tst70).map fun j : Nat => (j : Int)
theorem out70_succ (i : Nat) : out70 (i + 1) = out70 i ++ (if tst70 i = true then [(i : Int)] else []) := by
  unfold out70
  rw [List.range_succ, List.filter_append, List.map_append]
  congr 1
  by_cases h : tst70 i = true
  · rw [if_pos h, List.filter_cons, if_pos h]
    rfl
  · rw [if_neg h, List.filter_cons, if_neg h]
    rfl
theorem len70 : (pickF 8 0 4).length = 70 := by decide +kernel
theorem E70_ok : StkOk 8 4 (pickF 8 0 4) := by
  have h := all_stk (n := 8) (k := 4) (by decide) (by decide) (by decide) (by decide) (by rw [pick84, len70]; decide)
  rw [pick84] at h
  exact h
theorem lot70 : LotOk 70 (out70 70) := by
  refine ⟨fun i hi => ?_, ?_, ?_⟩
  · obtain ⟨j, hj, rfl⟩ := List.mem_map.mp hi
    have := List.mem_range.mp (List.mem_filter.mp hj).1
    omega
  · unfold out70
    rw [List.pairwise_map]
    exact (List.pairwise_lt_range.filter _).imp fun z => by omega
  · unfold out70
    rw [List.length_map]
    exact Nat.le_trans (List.length_filter_le _ _) (by rw [List.length_range]; decide)
section
variable {P : Program} {w : World} {K : PySem.W.Frag} {mg : Str → Option Value} {base : Heap} {Ps : Tbs} {H H' H0 : Hp} {k : Nat} {f c : Addr} {fd : FuncData}
def spWide10 (Ps : Tbs) : Sp := fun vs H Q _ => vs = [] ∧ Tb Ps H ∧ ∀ H', Ext Ps H H' → Q (.bl true) H'
theorem ok_wide10 {fA cA fR cR : Addr} {fdA fdR : FuncData} (D : Def K mg "_law_wide_right" sWide10 [] f fd c) (DA : Def K mg "_law_all" sAll ["_law_n", "_law_k"] fA fdA cA) (GA : FnOk P w K mg base CX0 (k) fA fdA ["_law_n", "_law_k"] (spAll K Ps)) (DR : Def K mg "_law_right" sRight10 ["_law_stack_here", "_law_lot_here"] fR fdR cR) (GR : FnOk P w K mg base CX0 (k) fR fdR ["_law_stack_here", "_law_lot_here"] (spRight10 K Ps)) (mt : mg "tuple" = none) (mr : mg "range" = none) : FnOk P w K mg base CX0 (k + 1) f fd [] (spWide10 Ps) := by
  refine D.ok (k := k) scWide10 (fun vs H Q E h => ?_) (fun A outer s H vs Q E hr h => ?_)
  · obtain ⟨rfl, _⟩ := h
    rfl
  · obtain ⟨rfl, ht, q⟩ := h
    refine ⟨_, (pss_cons (ps_setLc (i := 0) (own := [("_law_face", 1)]) (g := gName 1) (by rfl) scWide10.nd rfl rfl (by rfl) (pi_list (pcl DA GA hr (pa_cons pe_int (pa_cons pe_int pa_nil)))) (blkOk_by (N := ["_law_some", "_law_face", "_law_wide", "_law_lot_here", "_law_number"]) (sc := defScope sWide10) (by decide +kernel)) (fun _ _ _ _ _ => pg_name (i := 1) scWide10.nd rfl (Or.inl rfl)) (fun _ _ _ _ _ => (pts_one (PW.pt (pw_and (pt_cmpR op_lt (show PE _ _ (tOp (rIxT K) _ _) from pe_ix ix_tup (pv 1) pe_int (fun _ _ => rfl)) pe_int (nomark _)) (pw_and1 (pt_cmpR (show OpR _ _ (rIn K true) from op_notIn_seq) pe_int (pv 1) (by with_unfolding_all rfl))))))) (fun _ _ _ _ _ => (pv 1))) (pss_cons (ps_set (i := 2) scWide10.nd rfl (.inr rfl) (pe_tup (pa_cons pe_int (pa_cons pe_int (pa_cons (pe_callTy call_tuple_of (by rfl) mt (by decide +kernel) (pa_cons (pe_op op_cat (pv 0) (pe_lst (pa_cons (pe_tup (pa_cons pe_int (pa_cons pe_int (pa_cons pe_int pa_nil)))) (pa_cons (pe_tup (pa_cons pe_int (pa_cons pe_int (pa_cons pe_int pa_nil)))) pa_nil)))) pa_nil)) pa_nil))))) (pss_cons (ps_if (PW.pt (pw_or (pt_not (pt_val (pcl DR GR hr (pa_cons (pv 2) (pa_cons (pe_tupRg (by rfl) (by rfl) mt (prg_1 (by rfl) mr pe_int)) pa_nil))))) (pw_or1 (pt_not (pt_val (pcl DR GR hr (pa_cons (pv 2) (pa_cons (pe_tupRg (by rfl) (by rfl) mt (prg_1 (by rfl) mr pe_int)) pa_nil)))))))) (pss_one (ps_ret pe_bl)) pss_nil) (pss_cons (ps_set (i := 2) scWide10.nd rfl (.inr rfl) (pe_tup (pa_cons pe_int (pa_cons pe_int (pa_cons (pe_callTy call_tuple_of (by rfl) mt (by decide +kernel) (pa_cons (pcl DA GA hr (pa_cons pe_int (pa_cons pe_int pa_nil))) pa_nil)) pa_nil))))) (pss_cons (ps_set (i := 3) scWide10.nd rfl (.inl rfl) (pe_callTy call_tuple_of (by rfl) mt (by decide +kernel) (pa_cons (pe_lc (own := [("_law_number", 4)]) (g := gName 4) (by rfl) scWide10.nd (pi_range1 (by rfl) mr (pa_cons pe_int pa_nil)) (blkOk_by (N := ["_law_some", "_law_face", "_law_wide", "_law_lot_here", "_law_number"]) (sc := defScope sWide10) (by decide +kernel)) (fun _ _ _ _ _ => pg_name (i := 4) scWide10.nd rfl (Or.inl rfl)) (fun _ _ _ _ _ => (pts_one (PW.pt (pw_or (pt_cmpR (show OpR _ _ (rNeD K) from op_neD hr.units) (show PE _ _ (tSl (rSlI K Ps) _ _ _) from pe_slice sl_tupI (show PE _ _ (tOp (rIxT K) _ _) from pe_ix ix_tup (show PE _ _ (tOp (rIxT K) _ _) from pe_ix ix_tup (pv 2) pe_int (fun _ _ => rfl)) (pv 4) (fun _ _ => rfl)) (po_some pe_int) po_none) (pe_tup (pa_cons pe_int (pa_cons pe_int (pa_cons pe_int pa_nil)))) (nomark _)) (pw_or1 (pt_cmpR op_eq (pv 4) pe_int (nomark _))))))) (fun _ _ _ _ _ => (pv 4))) pa_nil))) (pss_one (ps_ret (pcl DR GR hr (pa_cons (pv 2) (pa_cons (pv 3) pa_nil)))))))))), ?_⟩
    have two : (2 : Nat) ≤ sizeLine := by decide
    have three : (3 : Nat) ≤ sizeLine := by decide
    refine tseq_intro fun R hR => ?_
    refine ⟨8, 3, rfl, by decide, by decide, ht, fun al as H1 e1 nal hal hap => ⟨al, rfl, ⟨_, .inl (.inl hal)⟩, fun D0 hD => lc_list (K := K) (a := al) (xs := as) (fun i HH => CP Ps (TupI K) H1 D0 (((allF 8 3).take i).filter isW) i HH) (CP.start e1.tb hD) (fun i HH _ p => p.ext.sqL (.inl (.inl hal))) (fun i u HH hu p => ?_) (fun HH p => ?_)⟩⟩
    · obtain ⟨fc, hfc, t, rfl, hT⟩ := paired_get hap hu
      have hl3 : fc.length = 3 := (mem_allF.mp (List.mem_of_getElem? hfc)).2
      have hi : i < as.length := (List.getElem?_eq_some_iff.mp hu).1
      have hal56 := allF_few (n := 8) (m := 3) (by decide) (by decide)
      rw [Paired.length hap] at hi
      have hft := filt_take isW hfc
      refine ⟨rfl, .ref t, rfl, t, _, 0, .int (fc.getD 0 0), rfl, rfl, p.ext.sqT hT, atI_nat (j := 0) (getD_map' (by omega)), _, 2, rfl, rfl, _, rfl, ite2 (fun hc => ?_) (fun hc => iteF ?_)⟩
      · have h2 : fc.getD 0 0 < 2 := of_decide_eq_true hc
        refine ⟨.ref t, rfl, t, _, rfl, .inr (p.ext.sqT hT), rfl, flat_ints fc, _, rfl, ?_⟩
        show if (!inV (.int 5) (fc.map V.int)) = true then _ else _
        rw [inV_ints]
        refine ite2 (fun hc2 => ?_) (fun hc2 => ?_)
        · have hw : isW fc = true := by
            unfold isW
            rw [decide_eq_true h2, hc2]
            rfl
          rw [if_pos hw] at hft
          refine ⟨.ref t, rfl, ?_⟩
          rw [hft]
          exact CP.put (stbT (K := K)) hD (by omega) p (show TupI K HH (.ref t) fc from ⟨t, rfl, p.ext.sqT hT⟩)
        · have hw : ¬ isW fc = true := by
            unfold isW
            rw [Bool.eq_false_iff.mpr hc2, Bool.and_false]
            decide
          rw [if_neg hw, List.append_nil] at hft
          rw [hft]
          exact p.mono (Nat.le_succ i)
      · have h2 : ¬ fc.getD 0 0 < 2 := fun z => hc (decide_eq_true z)
        have hw : ¬ isW fc = true := by
          unfold isW
          rw [decide_eq_false h2, Bool.false_and]
          decide
        rw [if_neg hw, List.append_nil] at hft
        rw [hft]
        exact p.mono (Nat.le_succ i)
    obtain ⟨ys, g1, g2, g3⟩ := p.at_
    rw [Paired.length hap, List.take_length, E25_all] at g2
    have yl := Paired.length g2
    rw [E25_len] at yl
    show R [some (.ref D0), none, none, none, none] HH
    rw [hR]
    clear hR
    have E2 := e1.trans p.ext
    clear p
    refine tseq_intro fun R hR => ?_
    refine ⟨.ref D0, rfl, three, fun t1 n1 => ⟨three, fun t2 n2 => ⟨two, fun l2 nl2 => ?_⟩⟩⟩
    have y1 := Ext.new (o := .tup [.int 3, .int 4, .int 5]) E2.tb n1
    have k1 : TupI K (upd HH t1 (.tup [.int 3, .int 4, .int 5])) (.ref t1) [3, 4, 5] := ⟨t1, rfl, .inl (.inl upd_same)⟩
    generalize upd HH t1 (.tup [.int 3, .int 4, .int 5]) = X1 at *
    have y2 := Ext.new (o := .tup [.int 5, .int 6, .int 7]) y1.tb n2
    have k2 : TupI K (upd X1 t2 (.tup [.int 5, .int 6, .int 7])) (.ref t2) [5, 6, 7] := ⟨t2, rfl, .inl (.inl upd_same)⟩
    generalize upd X1 t2 (.tup [.int 5, .int 6, .int 7]) = X2 at *
    have y3 := Ext.new (o := .lst [.ref t1, .ref t2]) y2.tb nl2
    have k3 : upd X2 l2 (.lst [.ref t1, .ref t2]) l2 = some (.lst [.ref t1, .ref t2]) := upd_same
    generalize upd X2 l2 (.lst [.ref t1, .ref t2]) = X3 at *
    have Y3 := y1.trans (y2.trans y3)
    refine ⟨D0, l2, ys, [.ref t1, .ref t2], rfl, rfl, Y3.lst g1, k3, ?_, fun l3 nl3 => ?_⟩
    · rw [yl]
      show 27 ≤ sizeLine
      decide
    have y4 := Ext.new (o := .lst (ys ++ [.ref t1, .ref t2])) y3.tb nl3
    have k4 : upd X3 l3 (.lst (ys ++ [.ref t1, .ref t2])) l3 = some (.lst (ys ++ [.ref t1, .ref t2])) := upd_same
    generalize upd X3 l3 (.lst (ys ++ [.ref t1, .ref t2])) = X4 at *
    have hap4 : Paired (TupI K X4) (ys ++ [.ref t1, .ref t2]) E27 := paired_app10 ((Y3.trans y4).tups g2) (.cons ((y2.trans (y3.trans y4)).tupI k1) (.cons ((y3.trans y4).tupI k2) .nil))
    refine ⟨l3, _, rfl, .inl ⟨.inl (.inl k4), fun tf ntf => ⟨three, fun tw ntw => ?_⟩⟩⟩
    have x5 := Ext.new (o := .tup (ys ++ [.ref t1, .ref t2])) y4.tb ntf
    have htf : SqT K (upd X4 tf (.tup (ys ++ [.ref t1, .ref t2]))) tf (ys ++ [.ref t1, .ref t2]) := .inl (.inl upd_same)
    have hap5 := x5.tups hap4
    generalize upd X4 tf (.tup (ys ++ [.ref t1, .ref t2])) = X5 at *
    have x6 := Ext.new (o := .tup [.int 8, .int 3, .ref tf]) x5.tb ntw
    have hw : Stk K (upd X5 tw (.tup [.int 8, .int 3, .ref tf])) (.ref tw) 8 3 E27 := ⟨tw, tf, _, rfl, .inl (.inl upd_same), x6.sqT htf, x6.tups hap5⟩
    generalize upd X5 tw (.tup [.int 8, .int 3, .ref tf]) = X6 at *
    have E6 := E2.trans (Y3.trans (y4.trans (x5.trans x6)))
    clear hap5 htf x5 hap4 k4 y4 k3 y3 k2 y2 k1 y1 Y3
    show R [some (.ref D0), none, some (.ref tw), none, none] X6
    rw [hR]
    clear hR
    refine tseq_intro fun R hR => ?_
    refine ⟨.ref tw, rfl, 26, rfl, RgOk.of_le (by omega) (by omega) (by omega) (by omega), fun r1 nr1 => ?_⟩
    rw [show rgV 0 26 = (rng 26).map V.int from rng_V 26]
    have z1 := Ext.new (o := .tup ((rng 26).map V.int)) E6.tb nr1
    refine ⟨.ref tw, .ref r1, 8, 3, E27, rng 26, rfl, z1.stk hw, E27_ok, ⟨r1, rfl, .inl (.inl upd_same)⟩, lot_rng (by rw [E27_len]; decide) (by decide), z1.tb, fun H7 e7 => ⟨true, rfl, iteF ?_⟩⟩
    have E7 := z1.trans e7
    refine ⟨.ref tw, rfl, 25, rfl, RgOk.of_le (by omega) (by omega) (by omega) (by omega), fun r2 nr2 => ?_⟩
    rw [show rgV 0 25 = (rng 25).map V.int from rng_V 25]
    have z2 := Ext.new (o := .tup ((rng 25).map V.int)) E7.tb nr2
    refine ⟨.ref tw, .ref r2, 8, 3, E27, rng 25, rfl, (E7.trans z2).stk hw, E27_ok, ⟨r2, rfl, .inl (.inl upd_same)⟩, lot_rng (by rw [E27_len]; decide) (by decide), z2.tb, fun H8 e8 => ⟨true, rfl, iteF ?_⟩⟩
    have E8 := E6.trans (E7.trans (z2.trans e8))
    show R [some (.ref D0), none, some (.ref tw), none, none] H8
    rw [hR]
    clear hR
    refine tseq_intro fun R hR => ?_
    refine ⟨8, 4, rfl, by decide, by decide, E8.tb, fun bl bs H9 e9 nbl hbl hbp => ⟨bl, bs, rfl, .inl ⟨.inl (.inl hbl), fun tg ntg => ⟨three, fun tv ntv => ?_⟩⟩⟩⟩
    rw [pick84] at hbp
    have w1 := Ext.new (o := .tup bs) e9.tb ntg
    have htg : SqT K (upd H9 tg (.tup bs)) tg bs := .inl (.inl upd_same)
    have hbp1 := w1.tups hbp
    generalize upd H9 tg (.tup bs) = HA at *
    have w2 := Ext.new (o := .tup [.int 8, .int 4, .ref tg]) w1.tb ntv
    have htv : SqT K (upd HA tv (.tup [.int 8, .int 4, .ref tg])) tv [.int 8, .int 4, .ref tg] := .inl (.inl upd_same)
    have htg2 := w2.sqT htg
    have hbp2 := w2.tups hbp1
    generalize upd HA tv (.tup [.int 8, .int 4, .ref tg]) = HB at *
    have hv : Stk K HB (.ref tv) 8 4 (pickF 8 0 4) := ⟨tv, tg, bs, rfl, htv, htg2, hbp2⟩
    have EB := E8.trans (e9.trans (w1.trans w2))
    have bl70 := Paired.length hbp2
    rw [len70] at bl70
    show R [some (.ref D0), none, some (.ref tv), none, none] HB
    rw [hR]
    clear hR
    refine tseq_intro fun R hR => ?_
    refine ⟨70, rfl, by decide, by decide, fun D1 hD1 => lc_range (lo := 0) (n := (70 : Int).toNat) (fun i HX => CP Ps FI HB D1 (out70 i) i HX) (CP.start EB.tb hD1) (fun i HX hi p2 => ?_) (fun HX p2 => ?_)⟩
    · have hi70 : i < 70 := hi
      have e0 : (0 : Int) + (i : Nat) = (i : Nat) := by omega
      obtain ⟨t, ht_, hI⟩ := paired_get hbp2 (List.getElem?_eq_getElem (show i < bs.length by omega))
      have egd : (pickF 8 0 4).getD i [] = t := by
        rw [List.getD_eq_getElem?_getD, ht_]
        rfl
      have t4 : t.length = 4 := by
        have := E70_ok.len t (List.mem_of_getElem? ht_)
        omega
      obtain ⟨ta, eta, hta⟩ := hI
      have ob := out70_succ i
      have htst : tst70 i = (!decide (t.drop 1 = [5, 6, 7]) || decide (i = 69)) := by
        unfold tst70
        rw [egd]
      refine ⟨rfl, .ref tv, rfl, tv, _, 2, .ref tg, rfl, rfl, p2.ext.sqT htv, at2, .int (0 + (i : Nat)), rfl, tg, bs, 0 + (i : Nat), .ref ta, rfl, rfl, p2.ext.sqT htg2, ?_, 1, rfl, t, t.drop 1, ⟨ta, rfl, p2.ext.sqT hta⟩, p2.ext.tb, ?_, fun v HY eY hvY => ⟨three, fun q1 n1 => ?_⟩⟩
      · rw [e0]
        exact atI_nat (by rw [List.getElem?_eq_getElem (show i < bs.length by omega), eta])
      · show cutV (t.map V.int) (some ((1 : Nat) : Int)) none = _
        rw [cut_from (by rw [List.length_map]; omega), List.map_drop]
      have x3 := Ext.new (o := .tup [.int 5, .int 6, .int 7]) eY.tb n1
      refine ⟨tD (t.drop 1), tD [5, 6, 7], dp_tup (x3.tupI hvY), dp_tup ⟨q1, rfl, .inl (.inl upd_same)⟩, shp_tup _, shp_tup _, _, rfl, ?_⟩
      rw [eqv_tD]
      have pX := p2.skip (stbI (K := K)) (eY.trans x3)
      have put : tst70 i = true → ∃ acc, (upd HY q1 (.tup [.int 5, .int 6, .int 7])) D1 = some (.lst acc) ∧ acc.length < sizeLine ∧ CP Ps FI HB D1 (out70 (i + 1)) (i + 1) (upd (upd HY q1 (.tup [.int 5, .int 6, .int 7])) D1 (.lst (acc ++ [.int (0 + (i : Nat))]))) := fun hT => by
        rw [if_pos hT] at ob
        rw [ob]
        exact CP.put (stbI (K := K)) hD1 (by omega) pX (show FI _ (.int (0 + (i : Nat))) ((i : Nat) : Int) from by rw [e0]; rfl)
      refine ite2 (fun hc => iteT ?_) (fun hc => ?_)
      · exact ⟨.int (0 + (i : Nat)), rfl, put (by rw [htst, hc, Bool.true_or])⟩
      · refine ⟨.int (0 + (i : Nat)), rfl, rfl, _, rfl, ite2 (fun hc2 => ?_) (fun hc2 => ?_)⟩
        · have h69 : V.int (0 + (i : Nat)) = V.int 69 := of_decide_eq_true hc2
          injection h69 with h69
          exact ⟨.int (0 + (i : Nat)), rfl, put (by rw [htst, decide_eq_true (show i = 69 by omega), Bool.or_true])⟩
        · have h69 : ¬ i = 69 := fun z => hc2 (decide_eq_true (by rw [z]; rfl))
          have hT : ¬ tst70 i = true := by
            rw [htst, decide_eq_false h69, Bool.or_false]
            exact hc
          rw [if_neg hT, List.append_nil] at ob
          rw [ob]
          exact pX.mono (Nat.le_succ i)
    obtain ⟨zs, k1, k2, k3⟩ := p2.at_
    rw [paired_ints k2] at k1
    refine ⟨D1, _, rfl, .inl ⟨.inl (.inl k1), fun tl ntl => ?_⟩⟩
    have w3 := Ext.new (o := .tup ((out70 70).map V.int)) p2.ext.tb ntl
    show R [some (.ref D0), none, some (.ref tv), some (.ref tl), none] (upd HX tl (.tup ((out70 70).map V.int)))
    rw [hR]
    clear hR
    have Ew := p2.ext.trans w3
    refine ⟨.ref tv, rfl, .ref tl, rfl, .ref tv, .ref tl, 8, 4, pickF 8 0 4, out70 70, rfl, Ew.stk hv, E70_ok, ⟨tl, rfl, .inl (.inl upd_same)⟩, by rw [len70]; exact lot70, Ew.tb, fun HZ eZ => q _ (EB.trans (Ew.trans eZ))⟩
end
end Lf

set_option maxHeartbeats 8000000
namespace Lf
open PySem PySem.Spec PyProof.Rows L2 GxR GxA SrT
abbrev nNoStack : List Str := ["_law_pen_here", "_law_stack_here", "_law_way", "_law_n", "_law_k", "_law_faces", "_law_at_here", "_law_face", "_law_some"]
theorem wide_t {ds : List PyData} (h1 : ds.length ≤ 1000) (h2 : ∀ d ∈ ds, wide d = true) : wide (.tuple ds) = true := by
  rw [wide, decide_eq_true h1, Bool.true_and]
  induction ds with
  | nil => rfl
  | cons d ds ih =>
    rw [wideAll, h2 d List.mem_cons_self, Bool.true_and]
    exact ih (by rw [List.length_cons] at h1; omega) fun e he => h2 e (List.mem_cons_of_mem _ he)
theorem wide_l {ds : List PyData} (h1 : ds.length ≤ 1000) (h2 : ∀ d ∈ ds, wide d = true) : wide (.list ds) = true := by
  have z := wide_t h1 h2
  have e : wide (.list ds) = wide (.tuple ds) := by simp only [wide]
  rw [e]
  exact z
theorem wide_tD {ns : List Int} (h : ns.length ≤ 1000) : wide (tD ns) = true := wide_t (by rw [List.length_map]; exact h) fun d hd => by
  obtain ⟨i, _, rfl⟩ := List.mem_map.mp hd
  rfl
/-- each of the pool is none -/
def badDs (n kk : Int) (fss : List (List Int)) (fc : List Int) (j : Nat) : List PyData := [.none, .str "4 2: 01", .dict [], .int 7, .list [.int n, .int kk, .tuple (fss.map tD)], .tuple [.int n, .int kk], .tuple [.int n, .int kk, .list (fss.map tD)], .tuple [.int n, .int kk, .tuple []], .tuple ([.int n, .int kk, .tuple (fss.map tD)] ++ [.int 0]), .tuple [.int 0, .int kk, .tuple (fss.map tD)], .tuple [.int 9, .int kk, .tuple (fss.map tD)], .tuple [.bool true, .int kk, .tuple (fss.map tD)], .tuple [.int n, .none, .tuple (fss.map tD)], .tuple [.int n, .int (-1), .tuple (fss.map tD)], .tuple [.int n, .int (kk + 1), .tuple (fss.map tD)], .tuple [.int n, .int kk, .tuple ((fss.map tD) ++ [.tuple (iD fc)])], .tuple [.int n, .int kk, .tuple ((((fss.map tD).take j) ++ [.list (iD fc)]) ++ ((fss.map tD).drop (j + 1)))], .tuple [.int n, .int kk, .tuple ((((fss.map tD).take j) ++ [.tuple ([.int n] ++ (iD fc))]) ++ ((fss.map tD).drop (j + 1)))]]
theorem badDs_ok {n kk : Int} {fss : List (List Int)} {fc : List Int} {j : Nat} (S : StkOk n kk fss) (hj : fss[j]? = some fc) : ∀ d ∈ badDs n kk fss fc j, isStackD d = false ∧ wide d = true := by
  have hm := List.mem_of_getElem? hj
  have l1 := S.l1
  have l70 := S.l70
  have h4 := S.len4 fc hm
  have wf : wide (.tuple (fss.map tD)) = true := wide_t (by rw [List.length_map]; omega) fun d hd => by
    obtain ⟨g, hg, rfl⟩ := List.mem_map.mp hd
    exact wide_tD (by have := S.len4 g hg; omega)
  have w3 : ∀ {x y z : PyData}, wide x = true → wide y = true → wide z = true → wide (.tuple [x, y, z]) = true := fun h1 h2 h3 => wide_t (by show 3 ≤ 1000; decide) fun d hd => by
    simp only [List.mem_cons, List.not_mem_nil, or_false] at hd
    rcases hd with rfl | rfl | rfl <;> assumption
  have i3 : ∀ i : Int, wide (.int i) = true := fun i => rfl
  intro d hd
  unfold badDs at hd
  simp only [List.mem_cons, List.not_mem_nil, or_false] at hd
  rcases hd with rfl | rfl | rfl | rfl | rfl | rfl | rfl | rfl | rfl | rfl | rfl | rfl | rfl | rfl | rfl | rfl | rfl | rfl
  · exact ⟨rfl, rfl⟩
  · exact ⟨rfl, rfl⟩
  · exact ⟨rfl, rfl⟩
  · exact ⟨rfl, rfl⟩
  · refine ⟨rfl, wide_l (by show 3 ≤ 1000; decide) fun d hd => ?_⟩
    simp only [List.mem_cons, List.not_mem_nil, or_false] at hd
    rcases hd with rfl | rfl | rfl
    · rfl
    · rfl
    · exact wf
  · exact ⟨isStackD_len (by simp), wide_t (by show 2 ≤ 1000; decide) fun d hd => by
      simp only [List.mem_cons, List.not_mem_nil, or_false] at hd
      rcases hd with rfl | rfl <;> rfl⟩
  · refine ⟨bad_of fun n' k' g e S' => ?_, w3 (i3 _) (i3 _) (wide_l (by rw [List.length_map]; omega) (wide_tup wf).2)⟩
    simp only [stkD, PyData.tuple.injEq, List.cons.injEq] at e
    exact nomatch e.2.2.1
  · refine ⟨bad_of fun n' k' g e S' => ?_, w3 (i3 _) (i3 _) rfl⟩
    simp only [stkD, PyData.tuple.injEq, List.cons.injEq, and_true] at e
    have z := congrArg List.length e.2.2
    rw [List.length_map] at z
    have := S'.l1
    simp at z
    omega
  · refine ⟨isStackD_len (by simp), wide_t (by show 4 ≤ 1000; decide) fun d hd => ?_⟩
    simp only [List.cons_append, List.nil_append, List.mem_cons, List.not_mem_nil, or_false] at hd
    rcases hd with rfl | rfl | rfl | rfl
    · rfl
    · rfl
    · exact wf
    · rfl
  · refine ⟨bad_of fun n' k' g e S' => ?_, w3 (i3 _) (i3 _) wf⟩
    simp only [stkD, PyData.tuple.injEq, List.cons.injEq, PyData.int.injEq] at e
    have := S'.n1
    omega
  · refine ⟨bad_of fun n' k' g e S' => ?_, w3 (i3 _) (i3 _) wf⟩
    simp only [stkD, PyData.tuple.injEq, List.cons.injEq, PyData.int.injEq] at e
    have := S'.n8
    omega
  · exact ⟨rfl, w3 rfl (i3 _) wf⟩
  · exact ⟨rfl, w3 (i3 _) rfl wf⟩
  · refine ⟨bad_of fun n' k' g e S' => ?_, w3 (i3 _) (i3 _) wf⟩
    simp only [stkD, PyData.tuple.injEq, List.cons.injEq, PyData.int.injEq] at e
    have := S'.k0
    omega
  · refine ⟨bad_of fun n' k' g e S' => ?_, w3 (i3 _) (i3 _) wf⟩
    simp only [stkD, PyData.tuple.injEq, List.cons.injEq, PyData.int.injEq, and_true] at e
    have eg := tDs_inj e.2.2
    subst eg
    have a1 := S.len fc hm
    have a2 := S'.len fc hm
    omega
  · refine ⟨bad_of fun n' k' g e S' => ?_, w3 (i3 _) (i3 _) (wide_t (by rw [List.length_append, List.length_map]; show fss.length + 1 ≤ 1000; omega) fun d hd => ?_)⟩
    · simp only [stkD, PyData.tuple.injEq, List.cons.injEq, PyData.int.injEq, and_true] at e
      have eg : fss ++ [fc] = g := tDs_inj (by rw [List.map_append, ← e.2.2]; rfl)
      have z := S'.srt
      rw [← eg, List.pairwise_append] at z
      have z2 := z.2.2 fc hm fc (by simp)
      rw [SrT.lex_irrefl] at z2
      cases z2
    · rcases List.mem_append.mp hd with hd | hd
      · exact (wide_tup wf).2 d hd
      · rw [List.mem_singleton.mp hd]
        exact wide_tD (by omega)
  · refine ⟨bad_of fun n' k' g e S' => ?_, w3 (i3 _) (i3 _) (wide_t (by simp only [List.length_append, List.length_take, List.length_drop, List.length_map, List.length_cons, List.length_nil]; omega) fun d hd => ?_)⟩
    · simp only [stkD, PyData.tuple.injEq, List.cons.injEq, PyData.int.injEq, and_true] at e
      have hx : PyData.list (iD fc) ∈ g.map tD := by
        rw [← e.2.2]
        simp
      obtain ⟨y, _, hy⟩ := List.mem_map.mp hx
      cases hy
    · rcases List.mem_append.mp hd with hd | hd
      · rcases List.mem_append.mp hd with hd | hd
        · exact (wide_tup wf).2 d (List.mem_of_mem_take hd)
        · rw [List.mem_singleton.mp hd]
          exact wide_l (by rw [List.length_map]; omega) fun d hd => by
            obtain ⟨i, _, rfl⟩ := List.mem_map.mp hd
            rfl
      · exact (wide_tup wf).2 d (List.mem_of_mem_drop hd)
  · refine ⟨bad_of fun n' k' g e S' => ?_, w3 (i3 _) (i3 _) (wide_t (by simp only [List.length_append, List.length_take, List.length_drop, List.length_map, List.length_cons, List.length_nil]; omega) fun d hd => ?_)⟩
    · simp only [stkD, PyData.tuple.injEq, List.cons.injEq, PyData.int.injEq, and_true] at e
      have hx : tD (n :: fc) ∈ g.map tD := by
        rw [← e.2.2]
        refine List.mem_append_left _ (List.mem_append_right _ ?_)
        exact List.mem_singleton.mpr rfl
      obtain ⟨y, hy1, hy⟩ := List.mem_map.mp hx
      have ey := tD_inj hy
      subst ey
      have := S'.bel _ hy1 n (by simp)
      omega
    · rcases List.mem_append.mp hd with hd | hd
      · rcases List.mem_append.mp hd with hd | hd
        · exact (wide_tup wf).2 d (List.mem_of_mem_take hd)
        · rw [List.mem_singleton.mp hd]
          exact wide_tD (ns := n :: fc) (by simp only [List.length_cons]; omega)
      · exact (wide_tup wf).2 d (List.mem_of_mem_drop hd)
section
variable {P : Program} {w : World} {K : PySem.W.Frag} {mg : Str → Option Value} {base : Heap} {Ps : Tbs} {H H' H0 : Hp} {k : Nat} {f c : Addr} {fd : FuncData}
def spNoStack (K : PySem.W.Frag) (Ps : Tbs) : Sp := fun vs H Q _ => ∃ (a : Addr) (x : V) (n kk : Int) (fss : List (List Int)), vs = [.ref a, x] ∧ Pen H a ∧ Stk K H x n kk fss ∧ StkOk n kk fss ∧ Tb Ps H ∧ ∀ v d H', Epn Ps a H H' → ThF K H' (fun b => H b = none) v d → wide d = true → isStackD d = false → Q v H'
end
end Lf

set_option maxHeartbeats 4000000
namespace Lf
open PySem PySem.Spec PyProof.Rows L2 GxR GxA SrT
/-- each of the pool is no lot, and no row -/
def badLs (m : Nat) (ns : List Int) : List PyData := [.none, .str "0", .int 7, .dict [], .list (iD ns), .tuple ((iD ns) ++ [.int (m : Int)]), .tuple ([.int (-1)] ++ (iD ns)), .tuple (([.int ((m : Int) - 1)] ++ (iD ns)) ++ [.int ((m : Int) - 1)]), .tuple [.bool true], .tuple ((iD ns) ++ [.none])]
theorem not_int {m : Nat} {ds : List PyData} {d : PyData} (hd : d ∈ ds) (h : intIn d 0 ((m : Int) - 1) = false) : belowD (.tuple ds) m = false := by
  show ds.all _ = false
  rw [List.all_eq_false]
  exact ⟨d, hd, by rw [h]; simp⟩
theorem bad_below {d : PyData} {m : Nat} (h : belowD d m = false) : risD d m = false ∧ ¬ RowD d m := by
  refine ⟨by unfold risD; rw [h]; rfl, ?_⟩
  rintro ⟨ns, rfl, hp⟩
  rw [below_tD (row_bel hp)] at h
  cases h
theorem badLs_ok {m : Nat} {ns : List Int} (hm : 1 ≤ m) (hl : ns.length ≤ 100) : ∀ d ∈ badLs m ns, wide d = true ∧ risD d m = false ∧ ¬ RowD d m := by
  have wi : ∀ d ∈ iD ns, wide d = true := fun d hd => by
    obtain ⟨i, _, rfl⟩ := List.mem_map.mp hd
    rfl
  have li : (iD ns).length = ns.length := List.length_map _
  intro d hd
  unfold badLs at hd
  simp only [List.mem_cons, List.not_mem_nil, or_false] at hd
  rcases hd with rfl | rfl | rfl | rfl | rfl | rfl | rfl | rfl | rfl | rfl
  · exact ⟨rfl, bad_below rfl⟩
  · exact ⟨rfl, bad_below rfl⟩
  · exact ⟨rfl, bad_below rfl⟩
  · exact ⟨rfl, bad_below rfl⟩
  · exact ⟨wide_l (by omega) wi, bad_below rfl⟩
  · refine ⟨wide_t (by rw [List.length_append, li]; show ns.length + 1 ≤ 1000; omega) fun d hd => ?_, bad_below (not_int (d := .int (m : Int)) (by simp) ?_)⟩
    · rcases List.mem_append.mp hd with hd | hd
      · exact wi d hd
      · rw [List.mem_singleton.mp hd]
        rfl
    · show (decide ((0 : Int) ≤ m) && decide ((m : Int) ≤ m - 1)) = false
      rw [decide_eq_false (show ¬ (m : Int) ≤ m - 1 by omega), Bool.and_false]
  · refine ⟨wide_t (by rw [List.length_append, li]; show 1 + ns.length ≤ 1000; omega) fun d hd => ?_, bad_below (not_int (d := .int (-1)) (by simp) rfl)⟩
    rcases List.mem_append.mp hd with hd | hd
    · rw [List.mem_singleton.mp hd]
      rfl
    · exact wi d hd
  · refine ⟨wide_t (by rw [List.length_append, List.length_append, li]; show 1 + ns.length + 1 ≤ 1000; omega) fun d hd => ?_, ?_, ?_⟩
    · rcases List.mem_append.mp hd with hd | hd
      · rcases List.mem_append.mp hd with hd | hd
        · rw [List.mem_singleton.mp hd]
          rfl
        · exact wi d hd
      · rw [List.mem_singleton.mp hd]
        rfl
    · cases e : risD (.tuple ([.int ((m : Int) - 1)] ++ iD ns ++ [.int ((m : Int) - 1)])) m with
      | false => rfl
      | true =>
        obtain ⟨us, e1, _, e2⟩ := risD_iff.mp e
        have e3 : ((m : Int) - 1) :: ns ++ [(m : Int) - 1] = us := tD_inj (by rw [← e1]; show _ = PyData.tuple _; simp [tD, iD])
        rw [← e3, List.pairwise_append] at e2
        have := e2.2.2 ((m : Int) - 1) (by simp) ((m : Int) - 1) (by simp)
        omega
    · rintro ⟨us, e1, hp⟩
      have e3 : ((m : Int) - 1) :: ns ++ [(m : Int) - 1] = us := tD_inj (by rw [← e1]; show _ = PyData.tuple _; simp [tD, iD])
      have nd := hp.nodup_iff.mpr (nd_rng m)
      rw [← e3] at nd
      simp at nd
  · exact ⟨rfl, bad_below rfl⟩
  · refine ⟨wide_t (by rw [List.length_append, li]; show ns.length + 1 ≤ 1000; omega) fun d hd => ?_, bad_below (not_int (d := .none) (by simp) rfl)⟩
    rcases List.mem_append.mp hd with hd | hd
    · exact wi d hd
    · rw [List.mem_singleton.mp hd]
      rfl
section
variable {P : Program} {w : World} {K : PySem.W.Frag} {mg : Str → Option Value} {base : Heap} {Ps : Tbs} {H H' H0 : Hp} {k : Nat} {f c : Addr} {fd : FuncData}
def spNoLot (K : PySem.W.Frag) (Ps : Tbs) : Sp := fun vs H Q _ => ∃ (a : Addr) (x y : V) (n kk : Int) (fss : List (List Int)) (ns : List Int), vs = [.ref a, x, y] ∧ Pen H a ∧ Stk K H x n kk fss ∧ StkOk n kk fss ∧ TupI K H y ns ∧ ns.length ≤ 100 ∧ Tb Ps H ∧ ∀ v d H', Epn Ps a H H' → ThF K H' (fun b => H b = none) v d → wide d = true → risD d fss.length = false → ¬ RowD d fss.length → Q v H'
end
end Lf

set_option maxHeartbeats 1000000
/-! t[::-1], t a tuple -/
namespace RvT
open PySem PySem.Spec PyProof.Rows L2 PySem.SeqAt
theorem adj_back (n : Nat) : Builtin.Slice.sliceAdjust none none (-1) (n : Int) = ((n : Int) - 1, -1) := by
  unfold Builtin.Slice.sliceAdjust
  simp
theorem places_back (n : Nat) : Builtin.Slice.slicePlaces ((n : Int) - 1) (-1) (-1) = n := by
  unfold Builtin.Slice.slicePlaces
  rw [if_neg (by decide)]
  by_cases h : (n : Int) - 1 > -1
  · rw [if_pos h, show (-(-1 : Int)) = 1 by decide, Int.ediv_one]
    omega
  · rw [if_neg h]
    omega
theorem pick_back (xs : Array Value) : ((List.range xs.size).filterMap fun (k : Nat) => xs[(((xs.size : Int) - 1) + (k : Int) * (-1)).toNat]?).toArray = xs.toList.reverse.toArray := by
  have e : ((List.range xs.size).filterMap fun (k : Nat) => xs[(((xs.size : Int) - 1) + (k : Int) * (-1)).toNat]?) = ((List.range xs.size).map fun k => xs.size - 1 - k).filterMap (xs[·]?) := by
    rw [List.filterMap_map]
    have key : ∀ l : List Nat, (∀ k ∈ l, k < xs.size) → (l.filterMap fun (k : Nat) => xs[(((xs.size : Int) - 1) + (k : Int) * (-1)).toNat]?) = l.filterMap ((fun x => xs[x]?) ∘ fun k => xs.size - 1 - k) := by
      intro l
      induction l with
      | nil => intro _; rfl
      | cons k l ih =>
        intro h
        have hk := h k List.mem_cons_self
        have e2 : (((xs.size : Int) - 1) + (k : Int) * (-1)).toNat = xs.size - 1 - k := by omega
        rw [List.filterMap_cons, List.filterMap_cons, ih fun j hj => h j (List.mem_cons_of_mem _ hj), e2]
        rfl
    exact key _ fun k hk => List.mem_range.mp hk
  rw [e, PySem.W.krv_range, List.filterMap_reverse, PySem.W.krv_all]
section
variable {prog : Program} {w : World} {A : Around} {E : Value → Shared → Prop} {s : Shared}
theorem applied_back {sl : Addr} {u : Tok} {n : Nat} {Q : Int × Int × Nat → Shared → Prop} (hs : s.heap.IsSliceOf sl .none .none (.int (-1) u)) (h : Q ((n : Int) - 1, -1, n) s) :
    wpAny (model prog w) A (Builtin.Slice.sliceApplied (.ref sl) (pure (n : Int))) Q E s := by
  obtain ⟨os, hos, hcs, hds⟩ := id hs
  unfold Builtin.Slice.sliceApplied Builtin.Slice.sliceFields
  refine wpAny_bind (wpAny_bind (wpAny_field hos hds (x := Value.none) rfl (wpAny_bind (wpAny_field hos hds (x := Value.none) rfl (wpAny_bind (wpAny_field hos hds (x := Value.int (-1) u) rfl (wpAny_pure ?_)))))))
  refine wpAny_bind (HT.slicePart_ (.int (-1) u) ?_)
  show wpAny _ _ (if ((-1 : Int) == 0) = true then _ else _) _ _ s
  rw [if_neg (by decide)]
  refine wpAny_bind (HT.slicePart_ .none (wpAny_bind (HT.slicePart_ .none (wpAny_bind (wpAny_pure ?_)))))
  show wpAny _ _ (match Builtin.Slice.sliceAdjust none none (-1) (n : Int) with | (lo, hi) => pure (lo, (-1 : Int), Builtin.Slice.slicePlaces lo hi (-1))) _ _ s
  rw [adj_back n]
  show wpAny _ _ (pure ((n : Int) - 1, (-1 : Int), Builtin.Slice.slicePlaces ((n : Int) - 1) (-1) (-1))) _ _ s
  rw [places_back]
  exact wpAny_pure h
theorem getItem_back {t sl : Addr} {items : Array Value} {u : Tok} {Q : Value → Shared → Prop} (ht : IsTup s.heap t items) (hs : s.heap.IsSliceOf sl .none .none (.int (-1) u))
    (h : Q (.ref s.heap.objs.size) { s with heap := s.heap.push { cls := .type "tuple", data := .seq items.toList.reverse.toArray } }) (hsz : items.size ≤ sizeLine) : wpAny (model prog w) A (getItem (.ref t) (.ref sl)) Q E s := by
  have hok : sizeOk (.seq items.toList.reverse.toArray) := by
    show items.toList.reverse.toArray.size ≤ sizeLine
    rw [List.size_toArray, List.length_reverse, Array.length_toList]
    exact hsz
  obtain ⟨os, hos, hcs, hds⟩ := id hs
  have hTs : s.TypeIs (.ref sl) "slice" := ⟨os, hos, hcs⟩
  unfold getItem
  try (with_reducible apply wpAny_holding)
  try (refine wpAny_bind (wpAny_pure ?_))
  refine wpAny_bind (wpAny_sequenceKey ht.typeIs (by decide) (wpAny_bind (wpAny_callSpecial?_slot (name := Str.ofString "__getitem__") ht.typeIs PyProof.Rows.slot_tuple_getitem (wpAny_call_entry PyProof.Rows.slot_tuple_getitem ht.typeIs entry_tuple_getitem ?_ (args_tuple_getitem _ _)))))
  show wpAny _ _ (Builtin.Tuple.tupleItemsOf (.ref t) >>= _) _ _ s
  refine wpAny_bind (tupleItemsOf_ ht (wpAny_bind (wpAny_typeOf hTs ?_)))
  rw [if_pos (by decide)]
  refine wpAny_bind (applied_back hs ?_)
  have no : ¬ ((((items.size : Int) - 1 == 0) && ((-1 : Int) == 1) && (items.size == items.size)) = true) := by
    simp
  show wpAny _ _ (if (((items.size : Int) - 1 == 0) && ((-1 : Int) == 1) && (items.size == items.size)) = true then _ else _) _ _ s
  rw [if_neg no, pick_back]
  exact wpAny_bind (m := Builtin.Tuple.tupleExact _) (wpAny_newObj_type (wpAny_pure ⟨Value.ref _, rfl, wpAny_pure h⟩) hok)
end
def tRevT (K : PySem.W.Frag) (te : TE) : TE := fun σ H Q => te σ H fun x H1 => ∃ a xs, x = .ref a ∧ SqT K H1 a xs ∧ ∀ p, H1 p = none → Q (.ref p) (upd H1 p (.tup xs.reverse))
theorem pe_revT {X : Cx} {e : Expr} {te : TE} {k : Nat} {p1 p2 p3 pos : Pos} (he : PE X e te) : PE X (.Subscript e (.Slice none none (some (.UnaryOp .USub (.Constant (.int 1) k p1) p2)) p3) pos) (tRevT X.K te) := by
  refine ⟨fun pins s σ H Q I h => ?_⟩
  refine Subscript_ (thn (he.run pins s σ H _ I h) fun v s1 hh => ?_)
  obtain ⟨x, H1, I1, r1, a, xs, rfl, hx, q⟩ := hh
  cases r1
  have hst : PO X (some (.UnaryOp .USub (.Constant (.int 1) k p1) p2)) (tPart (tUn (rU fun i => .int (-i)) (tC (.int 1)))) := po_some (pe_un un_neg pe_int)
  refine wpAny_Slice (thn (po_none.run pins s1 σ H1 (fun o Y => o = none ∧ Y = H1) I1 ⟨rfl, rfl⟩) fun vl s2 g2 => thn (po_none.run pins s2 σ H1 (fun o Y => o = none ∧ Y = H1) (by obtain ⟨_, _, J, _, _, rfl⟩ := g2; exact J) ⟨rfl, rfl⟩) fun vu s3 g3 => ?_)
  obtain ⟨_, _, I2, pl, rfl, rfl⟩ := g2
  obtain ⟨_, _, I3, pu, rfl, rfl⟩ := g3
  refine thn (hst.run pins s3 σ _ (fun o Y => o = some (-1) ∧ Y = _) I3 ⟨1, rfl, -1, rfl, rfl, rfl⟩) fun vs s4 g4 => ?_
  obtain ⟨_, Y, I4, ps, rfl, rfl⟩ := g4
  cases pl
  cases pu
  cases ps with
  | int i u =>
  have I5 : Inv X pins σ _ { s4 with heap := s4.heap.push { cls := .type "slice", data := .fields #[Value.none, Value.none, Value.int (-1) u] } } := I4.kept (t' := s4.toks) fun b ob q => Heap.get?_push_of_some _ q
  obtain ⟨its, r, ht, hz⟩ := I5.tuple hx
  have hlen := r.length
  show wpAny (model X.prog X.w) X.A (subscriptTail e (.Slice none none (some (.UnaryOp .USub (.Constant (.int 1) k p1) p2)) p3) (.ref a) (.ref s4.heap.objs.size)) (EP X pins σ Q) X.xe _
  refine tail_any (ops := [.ref a, .ref s4.heap.objs.size]) ht.typeIs PyProof.Rows.slot_tuple_getitem.lookup ?_ (by with_unfolding_all rfl)
  refine getItem_back ht (Heap.IsSliceOf.new _ .none .none (.int (-1) u)) ?_ (by rw [List.size_toArray]; omega)
  refine ⟨.ref _, _, I5.laid (t' := s4.toks) (o := .tup xs.reverse) (fun b ob q => Heap.get?_push_of_some _ q) (Nat.le_refl _) ?_, rfl, q _ (I5.hok.fresh (Nat.le_refl _))⟩
  exact ⟨by rw [List.length_reverse]; exact hz, its.reverse, r.reverse, IsTup.new _ _⟩
end RvT

set_option maxHeartbeats 2000000
namespace Lf
open PySem PySem.Spec PyProof.Rows L2 GxR GxA SrT
/-! ### repr of a thing -/
mutual
def noList : PyData → Bool
  | .list _ => false
  | .tuple ds => noLists ds
  | _ => true
def noLists : List PyData → Bool
  | [] => true
  | d :: ds => noList d && noLists ds
end
section
variable {X : Cx} {H : Hp} {pins : List (Addr × Obj)} {σ : L2.St} {s : Shared} {F : Addr → Prop}
mutual
theorem ThF.reads (I : L2.Inv X pins σ H s) : ∀ (d : PyData) (v : V) (u : Value), ThF X.K H F v d → RelV v u → ∃ as, Reads s.heap u d as ∧ (noList d = true → sysModules ∉ as)
  | .none, _, _, h, r => by
    cases h
    cases r
    exact ⟨_, Reads.none, fun _ z => nomatch z⟩
  | .bool b, _, _, h, r => by
    cases h
    cases r
    exact ⟨_, Reads.bool b, fun _ z => nomatch z⟩
  | .int i, _, _, h, r => by
    cases h
    obtain ⟨t, rfl⟩ := r
    exact ⟨_, Reads.int i t, fun _ z => nomatch z⟩
  | .str x, _, _, h, r => by
    cases h
    obtain ⟨t, rfl⟩ := r
    exact ⟨_, Reads.str x t, fun _ z => nomatch z⟩
  | .list ds, _, _, h, r => by
    cases h with
    | lst hf hs ha =>
      cases r
      obtain ⟨its, rv, ⟨o, n, ho, hc, _, hd⟩, _⟩ := I.list hs
      obtain ⟨as, hr, _⟩ := ThAllF.reads I ds _ its ha rv
      exact ⟨_, Reads.list ho hc hd hr, fun z => nomatch z⟩
  | .tuple ds, _, _, h, r => by
    cases h with
    | tup hs ha =>
      cases r
      obtain ⟨its, rv, ⟨o, ho, hc, n, hd⟩, _⟩ := I.tuple hs
      obtain ⟨as, hr, hm⟩ := ThAllF.reads I ds _ its ha rv
      exact ⟨_, Reads.tuple ho hc hd hr, fun z => hm z⟩
  | .dict kvs, _, _, h, r => by
    cases h with
    | dic hf hd =>
      cases r
      obtain ⟨_, low, vs, hkv, o, es, ep, ho, hex, hdt, _, hes, _⟩ := I.hok _ _ hd
      cases hkv
      have he0 : es.toList = [] := by
        cases e : es.toList with
        | nil => rfl
        | cons _ _ =>
          rw [e] at hes
          cases hes
      refine ⟨_, Reads.dict (kvs := []) ho hex.1 hdt (by rw [he0]; exact .nil) (by rw [he0]; exact .nil), fun _ z => ?_⟩
      have e := List.mem_singleton.mp z
      rw [← e] at low
      simp at low
theorem ThAllF.reads (I : L2.Inv X pins σ H s) : ∀ (ds : List PyData) (vs : List V) (us : List Value), ThAllF X.K H F vs ds → Vals vs us → ∃ as, ReadsAll s.heap us ds as ∧ (noLists ds = true → sysModules ∉ as)
  | [], _, _, h, r => by
    cases h
    cases r
    exact ⟨_, .nil, fun _ z => nomatch z⟩
  | d :: ds, _, _, h, r => by
    cases h with
    | cons h1 h2 =>
      cases r with
      | cons r1 r2 =>
        obtain ⟨as, a1, a2⟩ := ThF.reads I d _ _ h1 r1
        obtain ⟨bs, b1, b2⟩ := ThAllF.reads I ds _ _ h2 r2
        refine ⟨_, .cons a1 b1, fun z m => ?_⟩
        rw [noLists, Bool.and_eq_true] at z
        rcases List.mem_append.mp m with m | m
        · exact a2 z.1 m
        · exact b2 z.2 m
end
/-- what repr tells -/
def rpD : PyData → Str
  | .none => "None"
  | .bool b => if b then "True" else "False"
  | .int i => toString i
  | .str x => reprText x
  | d => d.shown
structure RpOk (d : PyData) : Prop where
  int : ∀ i, d = .int i → i.natAbs.log2 < 1920
  str : ∀ x, d = .str x → (reprText x).length ≤ sizeLine
  sh : d.showable = true
  sz : d.shown.length ≤ sizeLine
  dp : d.depth + 1 ≤ 60
  mix : d.hasDict = true → noList d = true
def rRepr (K : PySem.W.Frag) : List V → Hp → VK → Prop := fun vs H Q => ∃ (F : Addr → Prop) (x : V) (d : PyData), vs = [x] ∧ ThF K H F x d ∧ RpOk d ∧ Q (.str (rpD d)) H
theorem cr_repr (gd : X.A.guards = some []) (hu : X.A.units + 64 < cLine) : CallR X (.builtin "repr") (rRepr X.K) := by
  intro pins s σ H vs us Q I r h
  obtain ⟨F, x, d, rfl, hx, ok, q⟩ := h
  cases r with
  | cons r1 r2 =>
    cases r2
    obtain ⟨as, rd, hm⟩ := ThF.reads I d x _ hx r1
    have hdp := ok.dp
    cases hx with
    | non => cases r1; exact PySem.P.repr_of_none ⟨.str _, H, I.kept (fun _ _ e => e), ⟨_, rfl⟩, q⟩
    | bl b => cases r1; exact PySem.P.repr_of_bool ⟨.str _, H, I.kept (fun _ _ e => e), ⟨_, rfl⟩, q⟩
    | int i => obtain ⟨t, rfl⟩ := r1; exact PySem.P.repr_of_int (ok.int i rfl) ⟨.str _, H, I.kept (fun _ _ e => e), ⟨_, rfl⟩, q⟩
    | str z => obtain ⟨t, rfl⟩ := r1; exact PySem.P.repr_of_str ⟨.str _, H, I.kept (fun _ _ e => e), ⟨_, rfl⟩, q⟩ (ok.str z rfl)
    | lst hf hs ha =>
      cases r1
      exact repr_of_reads' rd ok.sh (fun z => hm (ok.mix z)) gd (by omega) (fun _ _ e => e) (fun h' u tk hk => ⟨.str _, H, I.kept hk, ⟨_, rfl⟩, q⟩) ok.sz
    | tup hs ha =>
      cases r1
      exact repr_of_reads' rd ok.sh (fun z => hm (ok.mix z)) gd (by omega) (fun _ _ e => e) (fun h' u tk hk => ⟨.str _, H, I.kept hk, ⟨_, rfl⟩, q⟩) ok.sz
    | dic hf hd =>
      cases r1
      exact repr_of_reads' rd ok.sh (fun z => hm (ok.mix z)) gd (by omega) (fun _ _ e => e) (fun h' u tk hk => ⟨.str _, H, I.kept hk, ⟨_, rfl⟩, q⟩) ok.sz
end
end Lf

set_option maxHeartbeats 2000000
namespace Lf
open PySem PySem.Spec PyProof.Rows L2 GxR GxA SrT
/-! ### things that can be shown -/
/-- a thing of a row: a number not far off, or one of few others -/
structure El (e : PyData) : Prop where
  sh : e.showable = true
  lv : e.leavesShort 13 = true
  wt : e.weight ≤ 60
  dp : e.depth ≤ 2
theorem el_int {i : Int} (h : i.natAbs < 1000000) : El (.int i) := by
  have hl : i.natAbs.log2 < 40 := by
    by_cases e : i.natAbs = 0
    · rw [e]; decide
    · exact (Nat.log2_lt e).mpr (by have : (2 : Nat) ^ 40 = 1099511627776 := by decide
                                    omega)
  refine ⟨?_, ?_, ?_, by simp [PyData.depth]⟩
  · simp only [PyData.showable]
    exact decide_eq_true (by omega)
  · simp only [PyData.leavesShort]
    exact decide_eq_true (PyData.shown_int_le (by omega))
  · simp only [PyData.weight]
    split <;> omega
theorem el_none : El .none := ⟨rfl, rfl, by simp [PyData.weight], by simp [PyData.depth]⟩
theorem el_bool (b : Bool) : El (.bool b) := ⟨rfl, rfl, by simp [PyData.weight], by simp [PyData.depth]⟩
theorem showAll {ds : List PyData} (h : ∀ e ∈ ds, El e) : PyData.showableAll ds = true := by
  induction ds with
  | nil => rfl
  | cons e ds ih =>
    rw [PyData.showableAll, (h e List.mem_cons_self).sh, ih fun x hx => h x (List.mem_cons_of_mem _ hx)]
    rfl
theorem leafAll {ds : List PyData} (h : ∀ e ∈ ds, El e) : PyData.leavesShortAll 13 ds = true := by
  induction ds with
  | nil => rfl
  | cons e ds ih =>
    rw [PyData.leavesShortAll, (h e List.mem_cons_self).lv, ih fun x hx => h x (List.mem_cons_of_mem _ hx)]
    rfl
theorem wtAll {ds : List PyData} (h : ∀ e ∈ ds, El e) : PyData.weightAll ds ≤ 61 * ds.length := by
  induction ds with
  | nil => simp [PyData.weightAll]
  | cons e ds ih =>
    have h1 := (h e List.mem_cons_self).wt
    have h2 := ih fun x hx => h x (List.mem_cons_of_mem _ hx)
    rw [PyData.weightAll, List.length_cons]
    omega
theorem dpAll_le {ds : List PyData} (h : ∀ e ∈ ds, El e) : PyData.depthAll ds ≤ 2 := by
  induction ds with
  | nil => simp [PyData.depthAll]
  | cons e ds ih =>
    have h1 := (h e List.mem_cons_self).dp
    have h2 := ih fun x hx => h x (List.mem_cons_of_mem _ hx)
    simp only [PyData.depthAll]
    omega
theorem rp_tup {ds : List PyData} (h : ∀ e ∈ ds, El e) (hl : ds.length ≤ 1000) (hm : PyData.hasDictAll ds = true → noLists ds = true) : RpOk (.tuple ds) := by
  refine ⟨(fun i z => by cases z), (fun x z => by cases z), showAll h, PyData.shown_fits (B := 13) (by decide) (by decide) (d := .tuple ds) (leafAll h) ?_, ?_, hm⟩
  · have := wtAll h
    have e : (2 : Nat) ^ 20 = 1048576 := by decide
    show PyData.weightAll ds ≤ 2 ^ 20
    omega
  · have := dpAll_le h
    simp only [PyData.depth]
    omega
theorem rp_lst {ds : List PyData} (h : ∀ e ∈ ds, El e) (hl : ds.length ≤ 1000) (hm : PyData.hasDictAll ds = false) : RpOk (.list ds) := by
  refine ⟨(fun i z => by cases z), (fun x z => by cases z), showAll h, PyData.shown_fits (B := 13) (by decide) (by decide) (d := .list ds) (leafAll h) ?_, ?_, fun z => ?_⟩
  · have := wtAll h
    have e : (2 : Nat) ^ 20 = 1048576 := by decide
    show PyData.weightAll ds ≤ 2 ^ 20
    omega
  · have := dpAll_le h
    simp only [PyData.depth]
    omega
  · have z' : PyData.hasDictAll ds = true := z
    rw [hm] at z'
    cases z'
theorem rp_none : RpOk .none := ⟨(fun i z => by cases z), (fun x z => by cases z), rfl, by decide, by simp [PyData.depth], (fun z => by cases z)⟩
theorem rp_dict : RpOk (.dict []) := ⟨(fun i z => by cases z), (fun x z => by cases z), rfl, by decide +kernel, by simp [PyData.depth, PyData.depthKv], fun _ => rfl⟩
theorem noDict_ints : ∀ ns : List Int, PyData.hasDictAll (iD ns) = false
  | [] => rfl
  | i :: ns => by
    show (PyData.hasDict (.int i) || PyData.hasDictAll (iD ns)) = false
    rw [noDict_ints ns]
    rfl
theorem el_ints {ns : List Int} (h : ∀ i ∈ ns, i.natAbs < 1000000) : ∀ e ∈ iD ns, El e := fun e he => by
  obtain ⟨i, hi, rfl⟩ := List.mem_map.mp he
  exact el_int (h i hi)
theorem noDictAll {ds : List PyData} (h : ∀ e ∈ ds, e.hasDict = false) : PyData.hasDictAll ds = false := by
  induction ds with
  | nil => rfl
  | cons e ds ih =>
    rw [PyData.hasDictAll, h e List.mem_cons_self, ih fun x hx => h x (List.mem_cons_of_mem _ hx)]
    rfl
theorem rp_t0 {ds : List PyData} (h : ∀ e ∈ ds, El e ∧ e.hasDict = false) (hl : ds.length ≤ 1000) : RpOk (.tuple ds) := rp_tup (fun e he => (h e he).1) hl fun z => by
  rw [noDictAll fun e he => (h e he).2] at z
  cases z
theorem rp_l0 {ds : List PyData} (h : ∀ e ∈ ds, El e ∧ e.hasDict = false) (hl : ds.length ≤ 1000) : RpOk (.list ds) := rp_lst (fun e he => (h e he).1) hl (noDictAll fun e he => (h e he).2)
theorem el0_ints {ns : List Int} (h : ∀ i ∈ ns, i.natAbs < 1000) : ∀ e ∈ iD ns, El e ∧ e.hasDict = false := fun e he => by
  obtain ⟨i, hi, rfl⟩ := List.mem_map.mp he
  exact ⟨el_int (by have := h i hi; omega), rfl⟩
theorem el_str0 : El (.str "0") := ⟨rfl, by decide +kernel, by decide +kernel, by simp [PyData.depth]⟩
theorem el_tup0 : El (.tuple [.int 0]) := ⟨by decide +kernel, by decide +kernel, by decide +kernel, by simp [PyData.depth, PyData.depthAll]⟩
theorem rp_tD {ns : List Int} (h : ∀ i ∈ ns, i.natAbs < 1000000) (hl : ns.length ≤ 1000) : RpOk (tD ns) := rp_tup (el_ints h) (by rw [List.length_map]; exact hl) fun z => by
  rw [noDict_ints] at z
  cases z
end Lf

set_option maxHeartbeats 8000000
namespace Lf
open PySem PySem.Spec PyProof.Rows L2 GxR GxA SrT
def bentDs (ns us : List Int) (j : Nat) (od : PyData) : List PyData := [.tuple (iD us), .tuple (iD us), .tuple ((((iD ns).take j) ++ [od]) ++ ((iD ns).drop (j + 1))), .tuple ((iD ns).drop 1), .tuple ((iD ns) ++ [.int ((ns.map V.int).length : Int)]), .tuple (((iD ns).take j) ++ ((iD ns).drop (j + 1))), .list (iD ns), .tuple (((iD ns).drop j) ++ ((iD ns).take j)), .tuple (iD ns.reverse), .tuple ((iD ns) ++ ((iD ns).take 1)), .none, .dict []]
theorem bentDs_ok {ns us : List Int} {j : Nat} {od : PyData} (hl : ns.length ≤ 100) (hu : us.length ≤ 100) (ho : wide od = true) : ∀ d ∈ bentDs ns us j od, wide d = true := by
  have wi : ∀ (ns : List Int) (d : PyData), d ∈ iD ns → wide d = true := fun ns d hd => by
    obtain ⟨i, _, rfl⟩ := List.mem_map.mp hd
    rfl
  have tk : ∀ (ns : List Int) (m : Nat) (d : PyData), d ∈ (iD ns).take m → wide d = true := fun ns m d hd => wi ns d (List.mem_of_mem_take hd)
  have dr : ∀ (ns : List Int) (m : Nat) (d : PyData), d ∈ (iD ns).drop m → wide d = true := fun ns m d hd => wi ns d (List.mem_of_mem_drop hd)
  have ap : ∀ (xs ys : List PyData), (∀ d ∈ xs, wide d = true) → (∀ d ∈ ys, wide d = true) → ∀ d ∈ xs ++ ys, wide d = true := fun xs ys h1 h2 d hd => (List.mem_append.mp hd).elim (h1 d) (h2 d)
  have sg : ∀ e : PyData, wide e = true → ∀ d ∈ [e], wide d = true := fun e h d hd => by rw [List.mem_singleton.mp hd]; exact h
  intro d hd
  unfold bentDs at hd
  simp only [List.mem_cons, List.not_mem_nil, or_false] at hd
  rcases hd with rfl | rfl | rfl | rfl | rfl | rfl | rfl | rfl | rfl | rfl | rfl | rfl
  · exact wide_tD (by omega)
  · exact wide_tD (by omega)
  · exact wide_t (by simp only [iD, List.length_append, List.length_take, List.length_drop, List.length_map, List.length_cons, List.length_nil]; omega) (ap _ _ (ap _ _ (tk ns j) (sg _ ho)) (dr ns (j + 1)))
  · exact wide_t (by simp only [iD, List.length_drop, List.length_map]; omega) (dr ns 1)
  · exact wide_t (by simp only [iD, List.length_append, List.length_map, List.length_cons, List.length_nil]; omega) (ap _ _ (wi ns) (sg _ rfl))
  · exact wide_t (by simp only [iD, List.length_append, List.length_take, List.length_drop, List.length_map]; omega) (ap _ _ (tk ns j) (dr ns (j + 1)))
  · exact wide_l (by simp only [iD, List.length_map]; omega) (wi ns)
  · exact wide_t (by simp only [iD, List.length_append, List.length_take, List.length_drop, List.length_map]; omega) (ap _ _ (dr ns j) (tk ns j))
  · exact wide_tD (by rw [List.length_reverse]; omega)
  · exact wide_t (by simp only [iD, List.length_append, List.length_take, List.length_map]; omega) (ap _ _ (wi ns) (tk ns 1))
  · rfl
  · rfl
theorem ixN_nat {n j : Nat} (h : j < n) : ixN n (j : Int) = some j := by
  unfold ixN
  rw [if_pos (by omega), if_pos (by omega)]
  simp
theorem set_ints {ns : List Int} {i : Nat} {x : Int} : (ns.map V.int).set i (.int x) = (ns.set i x).map V.int := List.map_set.symm
theorem bentDs_rp {ns us : List Int} {j : Nat} {od : PyData} (hl : ns.length ≤ 100) (hu : us.length ≤ 100) (hb : ∀ i ∈ ns, i.natAbs < 1000) (hub : ∀ i ∈ us, i.natAbs < 1000) (ho : El od ∧ od.hasDict = false) : ∀ d ∈ bentDs ns us j od, RpOk d := by
  have wi := el0_ints hb
  have tk : ∀ (m : Nat) (d : PyData), d ∈ (iD ns).take m → El d ∧ d.hasDict = false := fun m d hd => wi d (List.mem_of_mem_take hd)
  have dr : ∀ (m : Nat) (d : PyData), d ∈ (iD ns).drop m → El d ∧ d.hasDict = false := fun m d hd => wi d (List.mem_of_mem_drop hd)
  have ap : ∀ (xs ys : List PyData), (∀ d ∈ xs, El d ∧ d.hasDict = false) → (∀ d ∈ ys, El d ∧ d.hasDict = false) → ∀ d ∈ xs ++ ys, El d ∧ d.hasDict = false := fun xs ys h1 h2 d hd => (List.mem_append.mp hd).elim (h1 d) (h2 d)
  have sg : ∀ e : PyData, (El e ∧ e.hasDict = false) → ∀ d ∈ [e], El d ∧ d.hasDict = false := fun e h d hd => by rw [List.mem_singleton.mp hd]; exact h
  intro d hd
  unfold bentDs at hd
  simp only [List.mem_cons, List.not_mem_nil, or_false] at hd
  rcases hd with rfl | rfl | rfl | rfl | rfl | rfl | rfl | rfl | rfl | rfl | rfl | rfl
  · exact rp_t0 (el0_ints hub) (by rw [List.length_map]; omega)
  · exact rp_t0 (el0_ints hub) (by rw [List.length_map]; omega)
  · exact rp_t0 (ap _ _ (ap _ _ (tk j) (sg _ ho)) (dr (j + 1))) (by simp only [iD, List.length_append, List.length_take, List.length_drop, List.length_map, List.length_cons, List.length_nil]; omega)
  · exact rp_t0 (dr 1) (by simp only [iD, List.length_drop, List.length_map]; omega)
  · exact rp_t0 (ap _ _ wi (sg _ ⟨el_int (by rw [List.length_map]; omega), rfl⟩)) (by simp only [iD, List.length_append, List.length_map, List.length_cons, List.length_nil]; omega)
  · exact rp_t0 (ap _ _ (tk j) (dr (j + 1))) (by simp only [iD, List.length_append, List.length_take, List.length_drop, List.length_map]; omega)
  · exact rp_l0 wi (by simp only [iD, List.length_map]; omega)
  · exact rp_t0 (ap _ _ (dr j) (tk j)) (by simp only [iD, List.length_append, List.length_take, List.length_drop, List.length_map]; omega)
  · exact rp_t0 (el0_ints fun i hi => hb i (List.mem_reverse.mp hi)) (by rw [List.length_map, List.length_reverse]; omega)
  · exact rp_t0 (ap _ _ wi (tk 1)) (by simp only [iD, List.length_append, List.length_take, List.length_map]; omega)
  · exact rp_none
  · exact rp_dict
section
variable {P : Program} {w : World} {K : PySem.W.Frag} {mg : Str → Option Value} {base : Heap} {Ps : Tbs} {H H' H0 : Hp} {k : Nat} {f c : Addr} {fd : FuncData}
def spBent (K : PySem.W.Frag) (Ps : Tbs) : Sp := fun vs H Q _ => ∃ (a : Addr) (y : V) (ns : List Int), vs = [.ref a, y] ∧ Pen H a ∧ TupI K H y ns ∧ 1 ≤ ns.length ∧ ns.length ≤ 100 ∧ Tb Ps H ∧ ∀ v d H', Epn Ps a H H' → ThF K H' (fun b => H b = none) v d → wide d = true → ((∀ i ∈ ns, i.natAbs < 1000) → RpOk d) → Q v H'
end
end Lf

set_option maxHeartbeats 8000000
namespace Lf
open PySem PySem.Spec PyProof.Rows L2 GxR GxA SrT EnT
abbrev sLaw : Stmt := topS 61
theorem scLaw : FnScope ["_law_script", "_law_cell_here", "_law_pen_here", "_law_stack_here", "_law_row", "_law_few", "_law_lots", "_law_lot_here"] ["_law_script"] (defScope sLaw) := ⟨rfl, rfl, rfl, by decide +kernel, rfl, by decide +kernel, by decide +kernel⟩
section
variable {P : Program} {w : World} {K : PySem.W.Frag} {mg : Str → Option Value} {base : Heap} {Ps : Tbs} {H H' H0 : Hp} {k : Nat} {f c : Addr} {fd : FuncData}
theorem ok_law {fC cC fP cP fS cS fL cL fD cD fT cT fR cR fO cO : Addr} {fdC fdP fdS fdL fdD fdT fdR fdO : FuncData} (D : Def K mg "law" sLaw ["_law_script"] f fd c) (DC : Def K mg "_law_cell" sCell ["_law_script", "_law_k"] fC fdC cC) (GC : FnOk P w K mg base CX0 (k) fC fdC ["_law_script", "_law_k"] (spCell K)) (DP : Def K mg "_law_pen" sPen ["_law_cell_here"] fP fdP cP) (GP : FnOk P w K mg base CX0 (k) fP fdP ["_law_cell_here"] (spPen Ps)) (DS : Def K mg "_law_stack" sStack ["_law_pen_here", "_law_most"] fS fdS cS) (GS : FnOk P w K mg base CX0 (k) fS fdS ["_law_pen_here", "_law_most"] (spStack K Ps)) (DL : Def K mg "_law_laid_row" sLaid ["_law_pen_here", "_law_stack_here"] fL fdL cL) (GL : FnOk P w K mg base CX0 (k) fL fdL ["_law_pen_here", "_law_stack_here"] (spLaid K Ps)) (DD : Def K mg "_law_draw" sDraw ["_law_pen_here", "_law_many"] fD fdD cD) (GD : FnOk P w K mg base CX0 (k) fD fdD ["_law_pen_here", "_law_many"] spDraw) (DT : Def K mg "_law_lot" sLot ["_law_pen_here", "_law_stack_here"] fT fdT cT) (GT : FnOk P w K mg base CX0 (k) fT fdT ["_law_pen_here", "_law_stack_here"] (spLot K Ps)) (DR : Def K mg "_law_right" sRight10 ["_law_stack_here", "_law_lot_here"] fR fdR cR) (GR : FnOk P w K mg base CX0 (k) fR fdR ["_law_stack_here", "_law_lot_here"] (spRight10 K Ps)) (DO : Def K mg "_law_wide_right" sWide10 [] fO fdO cO) (GO : FnOk P w K mg base CX0 (k) fO fdO [] (spWide10 Ps)) (ml : mg "len" = none) (mt : mg "tuple" = none) (ms : mg "sorted" = none) (ma : mg "all" = none) :
    FnOk P w K mg base CX0 (k + 1) f fd ["_law_script"] (spLaw K Ps) := by
  refine D.ok (k := k) scLaw (fun vs H Q E h => ?_) (fun A outer s H vs Q E hr h => ?_)
  · obtain ⟨a, ns, rfl, _⟩ := h
    rfl
  · obtain ⟨a, ns0, rfl, hA, hl, ht, q⟩ := h
    refine ⟨_, (pss_cons (ps_if (pt_not (pt_val (pe_call0 GO hr (by rfl) DO.g DO.F.kp DO.b .nil pass0))) (pss_one (ps_ret pe_bl)) pss_nil) (pss_cons (ps_for PassesOwn.never rfl (pi_list (pe_op op_cat (pe_lst (pa_cons (pcl DC GC hr (pa_cons (pv 0) (pa_cons pe_int pa_nil))) pa_nil)) (pe_slice sl_list (pv 0) (po_some pe_int) (po_some pe_int)))) (pg_name (i := 1) scLaw.nd rfl (.inl rfl)) (pss_cons (ps_set (i := 2) scLaw.nd rfl (.inl rfl) (pcl DP GP hr (pa_cons (pv 1) pa_nil))) (pss_cons (ps_set (i := 3) scLaw.nd rfl (.inr rfl) (pcl DS GS hr (pa_cons (pv 2) (pa_cons pe_int pa_nil)))) (pss_cons (ps_set (i := 4) scLaw.nd rfl (.inl rfl) (pcl DL GL hr (pa_cons (pv 2) (pa_cons (pv 3) pa_nil)))) (pss_cons (ps_set (i := 5) scLaw.nd rfl (.inl rfl) (pcl DD GD hr (pa_cons (pv 2) (pa_cons (pe_op op_add (pe_callB (call_lenS (K := K) rfl) (by rfl) ml PySem.boot_len (pa_cons (pv 4) pa_nil)) pe_int) pa_nil)))) (pss_cons (ps_set (i := 6) scLaw.nd rfl (.inl rfl) (pe_lst (pa_cons (pcl DT GT hr (pa_cons (pv 2) (pa_cons (pv 3) pa_nil))) (pa_cons (pe_callTy call_tuple_of (by rfl) mt (by decide +kernel) (pa_cons (pe_callB cr_sortTI (by rfl) ms (by decide +kernel) (pa_cons (pe_slice (show SlR _ (rSlI K Ps) from sl_tupI) (pv 4) po_none (po_some (pv 5))) pa_nil)) pa_nil)) (pa_cons (pe_tup pa_nil) pa_nil))))) (pss_one (ps_if (pt_not (pt_val (pe_callB (cr_all rfl) (by rfl) ma (by decide +kernel) (pa_cons (pe_lc (own := [("_law_lot_here", 7)]) (g := gName 7) (by rfl) scLaw.nd (pi_list (pv 6)) (blkOk_by (N := ["_law_script", "_law_cell_here", "_law_pen_here", "_law_stack_here", "_law_row", "_law_few", "_law_lots", "_law_lot_here"]) (sc := defScope sLaw) (by decide +kernel)) (fun _ _ _ _ _ => pg_name (i := 7) scLaw.nd rfl (Or.inl rfl)) (fun _ _ _ _ _ => pts_nil) (fun _ _ _ _ _ => (pcl DR GR hr (pa_cons (pv 3) (pa_cons (pv 7) pa_nil))))) pa_nil)))) (pss_one (ps_ret pe_bl)) pss_nil)))))))) (pss_one (ps_ret pe_bl)))), ?_⟩
    refine tseq_intro fun R hR => ?_
    refine ⟨rfl, ht, fun HB0 e0 => ⟨true, rfl, iteF ?_⟩⟩
    show R [some (.ref a), none, none, none, none, none, none, none] HB0
    rw [hR]
    clear hR
    replace hA := e0.sqL hA
    replace ht := e0.tb
    clear e0
    have one : (1 : Nat) ≤ sizeLine := by decide
    refine ⟨.ref a, rfl, a, ns0, rfl, hA, fun z => ⟨one, fun l1 hl1 => ?_⟩⟩
    have x1 : Ext Ps HB0 (upd HB0 l1 (.lst [.int z])) := Ext.new ht hl1
    refine ⟨.ref a, rfl, 1, rfl, 6, rfl, a, _, rfl, x1.sqL hA, fun l2 hl2 => ?_⟩
    obtain ⟨cs, hcs, ecs⟩ := cut_ints ns0 (some 1) (some 6)
    have hcl := hcs.length_le
    have e2 := Ext.new (o := .lst (cutV (ns0.map V.int) (some 1) (some 6))) x1.tb hl2
    have x2 := x1.trans e2
    refine ⟨l1, l2, _, _, rfl, rfl, e2.lst upd_same, upd_same, ?_, fun l3 hl3 => ?_⟩
    · rw [ecs, List.length_map]
      exact Nat.le_of_lt (small1000 (by show 1 + cs.length ≤ 1000; omega))
    rw [ecs]
    have eL : [V.int z] ++ cs.map V.int = (z :: cs).map V.int := rfl
    rw [eL]
    have x3 := x2.trans (Ext.new (o := .lst ((z :: cs).map V.int)) x2.tb hl3)
    rw [ecs] at x3
    refine ⟨l3, rfl, ⟨_, .inl (.inl upd_same)⟩, ?_⟩
    have hL3 : (upd (upd (upd HB0 l1 (.lst [.int z])) l2 (.lst (cs.map V.int))) l3 (.lst ((z :: cs).map V.int))) l3 = some (.lst ((z :: cs).map V.int)) := upd_same
    generalize upd (upd (upd HB0 l1 (.lst [.int z])) l2 (.lst (cs.map V.int))) l3 (.lst ((z :: cs).map V.int)) = HL at *
    refine for_list (K := K) (a := l3) (xs := (z :: cs).map V.int) (fun i σ H3 => Ext Ps HL H3 ∧ ∃ y1 y2 y3 y4 y5 y6 : Option V, σ = [some (.ref a), y1, y2, y3, y4, y5, y6, none]) ⟨Ext.refl x3.tb, _, _, _, _, _, _, rfl⟩ (fun i σ H3 _ p => p.1.sqL (.inl (.inl hL3))) (fun i x σ H3 hx p => ?_) (fun σ H3 p => q _)
    obtain ⟨e3, y1, y2, y3, y4, y5, y6, rfl⟩ := p
    obtain ⟨cell, _, rfl⟩ := map_int hx
    refine tseq_intro fun R hR => ?_
    refine ⟨.int cell, rfl, cell, rfl, e3.tb, fun pa H4 e4 npa hpa => ?_⟩
    show R [some (.ref a), some (.int cell), some (.ref pa), y3, y4, y5, y6, none] H4
    rw [hR]
    clear hR
    have hn3 : HL pa = none := e3.free npa
    have npn : ∀ {HX : Hp}, Pen HX pa → ∀ b, HX b = none → b ≠ pa := fun {HX} hp b hb z => by
      obtain ⟨u, v, e⟩ := hp
      rw [z, e] at hb
      cases hb
    refine tseq_intro fun R hR => ?_
    refine ⟨.ref pa, rfl, pa, 14, rfl, hpa, by decide, by decide, e4.tb, fun sv n kk fss H5 e5 hS S l40 => ?_⟩
    show R [some (.ref a), some (.int cell), some (.ref pa), some sv, y4, y5, y6, none] H5
    rw [hR]
    clear hR
    refine tseq_intro fun R hR => ?_
    refine ⟨.ref pa, rfl, sv, rfl, pa, sv, n, kk, fss, rfl, e5.pen, hS, (by omega), S.len4, e5.tb, fun rv rs H6 e6 hrv hperm => ?_⟩
    have hS6 := e6.stk hS
    have hrl : rs.length = fss.length := by rw [hperm.length_eq, rng_len]
    have l64 := (show fss.length < 64 by omega)
    obtain ⟨ra, rfl, hra⟩ := id hrv
    show R [some (.ref a), some (.int cell), some (.ref pa), some sv, some (.ref ra), y5, y6, none] H6
    rw [hR]
    clear hR
    refine tseq_intro fun R hR => ?_
    refine ⟨.ref pa, rfl, .ref ra, rfl, ra, _, rfl, .inr hra, _, 1, rfl, rfl, pa, _, rfl, e6.pen, ?_, ?_, fun x7 f7 few w0 w1 => ?_⟩
    · omega
    · rw [List.length_map]
      omega
    have e7 : Epn Ps pa H6 (upd H6 pa (.lst [.int x7, .int f7])) := Epn.draw e6.tb e6.pen
    have hS7 := e7.stk hS6
    have hra7 := e7.sqT hra
    have P7 := e5.trans (e6.trans e7)
    generalize upd H6 pa (.lst [.int x7, .int f7]) = H7 at *
    show R [some (.ref a), some (.int cell), some (.ref pa), some sv, some (.ref ra), some (.int few), y6, none] H7
    rw [hR]
    clear hR
    rw [List.length_map] at w1
    -- the lots
    refine tseq_intro fun R hR => ?_
    refine ⟨.ref pa, rfl, sv, rfl, pa, sv, n, kk, fss, rfl, P7.pen, hS7, by omega, P7.tb, fun lv ls H8 e8 hlv hlok => ?_⟩
    have P8 := P7.trans e8
    have hra8 := e8.sqT hra7
    have hsub : (rs.take few.toNat).Sublist rs := List.take_sublist _ _
    refine ⟨.ref ra, rfl, .int few, rfl, few, rfl, rs, rs.take few.toNat, ⟨ra, rfl, hra8⟩, P8.tb, ?_, fun v9 H9 e9 hv9 => ?_⟩
    · obtain ⟨fn, hfn⟩ := Int.eq_ofNat_of_zero_le w0
      rw [hfn, Int.toNat_natCast]
      exact cut_intsT (by omega)
    obtain ⟨t9, rfl, ht9⟩ := id hv9
    have P9 := P8.trans (e9.epn P8.pen)
    refine ⟨t9, _, rfl, ht9, fun us' p pm sr np => ?_⟩
    have y1 := Ext.new (o := .lst (us'.map V.int)) P9.tb np
    have hp1 : upd H9 p (.lst (us'.map V.int)) p = some (.lst (us'.map V.int)) := upd_same
    generalize upd H9 p (.lst (us'.map V.int)) = H10 at *
    refine ⟨p, _, rfl, .inl ⟨.inl (.inl hp1), fun tp ntp => ?_⟩⟩
    have y2 := Ext.new (o := .tup (us'.map V.int)) y1.tb ntp
    have htp : TupI K (upd H10 tp (.tup (us'.map V.int))) (.ref tp) us' := ⟨tp, rfl, .inl (.inl upd_same)⟩
    generalize upd H10 tp (.tup (us'.map V.int)) = H11 at *
    refine ⟨Nat.zero_le _, fun te nte => ⟨(by show 3 ≤ sizeLine; decide), fun lq nlq => ?_⟩⟩
    have y3 := Ext.new (o := .tup []) y2.tb nte
    have hte : TupI K (upd H11 te (.tup [])) (.ref te) [] := ⟨te, rfl, .inl (.inl upd_same)⟩
    generalize upd H11 te (.tup []) = H12 at *
    have y4 := Ext.new (o := .lst [lv, .ref tp, .ref te]) y3.tb nlq
    have hlq : upd H12 lq (.lst [lv, .ref tp, .ref te]) lq = some (.lst [lv, .ref tp, .ref te]) := upd_same
    generalize upd H12 lq (.lst [lv, .ref tp, .ref te]) = H13 at *
    have Y := y1.trans (y2.trans (y3.trans y4))
    have E13 : Ext Ps H9 H13 := Y
    have P13 := P9.trans (E13.epn P9.pen)
    have e89 : Ext Ps H8 H13 := e9.trans E13
    have hS13 := e89.stk (e8.stk hS7)
    have lots : ∀ (j : Nat) (u : V), [lv, V.ref tp, V.ref te][j]? = some u → ∃ ms : List Int, TupI K H13 u ms ∧ LotOk fss.length ms := by
      intro j u hu
      match j, hu with
      | 0, hu => cases hu; exact ⟨ls, e89.tupI hlv, hlok⟩
      | 1, hu =>
        cases hu
        have hnd : us'.Nodup := pm.nodup_iff.mpr ((hperm.nodup_iff.mpr (nd_rng _)).sublist hsub)
        have hll : us'.length ≤ 64 := by
          rw [pm.length_eq]
          have := hsub.length_le
          omega
        exact ⟨us', (y3.trans y4).tupI htp, fun i hi => mem_rng (hperm.mem_iff.mp (hsub.subset (pm.mem_iff.mp hi))), lt_of_le_nd sr hnd, by omega⟩
      | 2, hu => cases hu; exact ⟨[], y4.tupI hte, ⟨(fun i hi => absurd hi (by simp)), List.Pairwise.nil, Nat.zero_le _⟩⟩
      | j + 3, hu => simp at hu
    show R [some (.ref a), some (.int cell), some (.ref pa), some sv, some (.ref ra), some (.int few), some (.ref lq), none] H13
    rw [hR]
    clear hR
    refine ⟨.ref lq, rfl, lq, rfl, ⟨_, .inl (.inl hlq)⟩, fun D0 hD => lc_list (K := K) (a := lq) (xs := [lv, .ref tp, .ref te]) (fun j HH => CP Ps FBl H13 D0 (List.replicate j true) j HH) (CP.start y4.tb hD) (fun j HH _ p => p.ext.sqL (.inl (.inl hlq))) (fun j u HH hu p => ?_) (fun HH p => ?_)⟩
    · obtain ⟨ms2, hms, hlo⟩ := lots j u hu
      have hj : j < 3 := (List.getElem?_eq_some_iff.mp hu).1
      refine ⟨rfl, yes_ (iteT ⟨sv, rfl, u, rfl, sv, u, n, kk, fss, ms2, rfl, p.ext.stk hS13, S, p.ext.tupI hms, hlo, p.ext.tb, fun H14 e14 => ?_⟩)⟩
      have r := CP.put (stbB (K := K)) hD (by omega) (p.skip (stbB (K := K)) e14) (show FBl H14 (.bl true) true from rfl)
      rw [List.replicate_succ']
      exact r
    · obtain ⟨ys, g1, g2, g3⟩ := p.at_
      have ey := paired_bls g2
      subst ey
      refine ⟨D0, _, rfl, .inl (.inl g1), ?_⟩
      have hall : (List.replicate [lv, V.ref tp, V.ref te].length true).all id = true := by simp
      rw [hall]
      exact ⟨true, rfl, iteF ⟨Epn.ext (e3.trans e4) hn3 (P13.trans (p.ext.epn P13.pen)), _, _, _, _, _, _, rfl⟩⟩
end
end Lf

set_option maxHeartbeats 4000000
namespace Lf
open PySem PySem.Spec PyProof.Rows L2 GxR GxA SrT
/-- a def of the top, by what the written part says of it -/
theorem def_mk {K : PySem.W.Frag} {h : Heap} {mg : Str → Option Value} {x : Str} {st : Stmt} {ps : List Str} {f c : Addr} {oc : Value} {od an : Option Addr} {osl : Array (Option Value)} {kV doc pm ct : Value} (X : K.In h) (G : h.Ns mainGlobals mg) (a : PySem.W.nsIn K mainGlobals x = some (some (.ref f)))
    (l : K.lookup f = some ⟨oc, od, .func (PySem.W.fnOf x x (defArgs st) (defBody st) (defScope st) .none kV doc pm an (.ref c) ct), osl⟩) (cI : PySem.W.codeIn K (.ref c) x = true) (kI : PySem.W.keepIn K (.ref f) = true)
    (hb : ∀ (kV doc pm : Value) (an : Option Addr) (cdv ct : Value) (us : List Value), us.length = ps.length → bindArgs (PySem.W.fnOf x x (defArgs st) (defBody st) (defScope st) .none kV doc pm an cdv ct) ⟨us, []⟩ = pure (ps.zip us)) :
    Def K mg x st ps f (PySem.W.fnOf x x (defArgs st) (defBody st) (defScope st) .none kV doc pm an (.ref c) ct) c :=
  ⟨⟨⟨oc, od, kV, doc, pm, an, ct, osl, rfl, l, cI⟩, kI⟩, .all (hb kV doc pm an (.ref c) ct), PySem.W.mg_of X G a⟩
/-- the table of a def's code object is empty at the law's call -/
theorem tab_at {K : PySem.W.Frag} {h : Heap} {mg mb : Str → Option Value} {q : Program} {loose : List Str} {mean : ExcName → Option Value} {x : Str} {f c Pt : Addr} {oc e : Value} {od dd : Option Addr} {osl sl : Array (Option Value)} {fd : FuncData} {vs : Array Value} (T : PyProof.Rows.Top q loose mean mg mb h) (X : K.In h)
    (hr : ((PyProof.Rows.recsOf q).any fun e => e.name == x) = true) (hm : mg x = some (.ref f)) (l : K.lookup f = some ⟨oc, od, .func fd, osl⟩) (hc : fd.code = .ref c) (lc : K.lookup c = some ⟨e, dd, .fields vs, sl⟩) (hv : vs[11]? = some (.ref Pt)) :
    PySem.W.CodeHd h c Pt ∧ h.get? Pt = some { cls := .none, data := .fields #[] } := by
  obtain ⟨dL, hmem, hn1⟩ := List.any_eq_true.mp hr
  have hn2 : dL.name = x := beq_iff_eq.mp hn1
  obtain ⟨a', o', fd', c', P', h1, h2, h3, h4, h5, h6⟩ := T.tab dL hmem
  rw [hn2, hm] at h1
  cases h1
  have g1 := X _ _ l
  rw [g1] at h2
  cases h2
  cases h3
  rw [hc] at h4
  cases h4
  have hd := PySem.W.CodeHd.of h5 h6
  obtain ⟨⟨ob, vc, e1, _, e3, e4⟩, hP⟩ := h6
  have g2 := X _ _ lc
  rw [g2] at e1
  cases e1
  cases e3
  rw [hv] at e4
  cases e4
  exact ⟨hd, hP⟩
theorem tabB_of {base : Heap} {mg : Str → Option Value} {c Pt : Addr} (t : LamX.TabB base mg c Pt) : GxR.TabB base mg c Pt := ⟨t.code, t.bm, t.gP⟩
theorem tabG_nil {H : Hp} {Pt : Addr} (h : H Pt = some (.tbl #[])) : TabG H Pt := ⟨#[], h, trivial⟩

theorem walk_tabs {l : PySem.W.OpenLaw} {n k : Nat} {q : Program} {loose : List Str} {XP : (Str → Option Value) → Heap → Prop} {YP : World → Heap → Prop} {d : DefRec} {K : Params → PySem.W.Frag} {CX : World → CXT} {x : Str}
    (hn : l.most = some n) (hn2 : n ≤ sizeLine) (hdf : d.params.defaults = []) (hr : Room k callerA) (hY : ∀ (w : World) (h : Heap), YP w h → (K w.params).In h)
    (F : ∀ (w : World) (mg mb : Str → Option Value) (mean : ExcName → Option Value) (fa : Addr) (h : Heap), PyProof.Rows.Top q (PySem.W.looseW q loose) mean mg mb h → (K w.params).In h → mg d.name = some (.ref fa) → LamX.LawAtS l w (K w.params) (CX w) k n x mg fa h)
    (hCX : ∀ (w : World) (H : Hp) (s : Shared) (e : Value) (s' : Shared), CX w [] H s (fun _ _ _ => False) e s' → False) :
    PySem.W.WalkO q loose XP YP l.row.toRowW d [] (fun f vs => PySem.call f vs) := by
  refine Att.attach_callB hn hdf fun w s₀ s₁ mg mb fa o pm cd doc a vs ns G Y ho hd hcd hmg hobj hints hlen hbits hg => ?_
  have KX := hY w _ Y
  obtain ⟨fd, cs, sp, hT, nT, C, hb, hsp, hF⟩ := F w mg mb _ fa _ G.T KX hmg
  exact LamX.law_callTs KX G.T.g G.T.b G.T.builtins G.T.nolimit hg hT nT C G.T.bmain hobj hints (Nat.le_trans hlen hn2) hr hF hb (fun H hH hS => hsp H a ns hlen hbits hH hS) fun H e s' => hCX w H s₁ e s'
theorem tbs_apart {g : List Addr} {l : List (Addr × Str)} (h : (l.map (·.1) ++ g).Nodup) : ∀ p ∈ l, p.1 ∉ g := fun p hp hg =>
  (List.nodup_append.mp h).2.2 p.1 (List.mem_map.mpr ⟨p, hp, rfl⟩) p.1 hg rfl
theorem tbs_one : ∀ {l : List (Addr × Str)}, (l.map (·.1)).Nodup → ∀ p ∈ l, ∀ q ∈ l, p.1 = q.1 → p.2 = q.2
  | [], _, p, hp, _, _, _ => nomatch hp
  | a :: l, h, p, hp, q, hq, e => by
    rw [List.map_cons, List.nodup_cons] at h
    rcases List.mem_cons.mp hp with e1 | h1
    · rcases List.mem_cons.mp hq with e2 | h2
      · rw [e1, e2]
      · have z : a.1 ∈ l.map (·.1) := List.mem_map.mpr ⟨q, h2, by rw [← e, e1]⟩
        exact absurd z h.1
    · rcases List.mem_cons.mp hq with e2 | h2
      · have z : a.1 ∈ l.map (·.1) := List.mem_map.mpr ⟨p, h1, by rw [e, e2]⟩
        exact absurd z h.1
      · exact tbs_one h.2 p h1 q h2 e
/-- the tables, by their addresses -/
def mkTbs (g : List Addr) (l : List (Addr × Str)) (h : (l.map (·.1) ++ g).Nodup) : Tbs := ⟨g, l, tbs_apart h, tbs_one (List.nodup_append.mp h).1⟩
theorem mkTbs_tb {g : List Addr} {l : List (Addr × Str)} {h : (l.map (·.1) ++ g).Nodup} {H : Hp} (hg : ∀ P ∈ g, H P = some (.tbl #[])) (hl : ∀ p ∈ l, H p.1 = some (.tbl #[])) : Tb (mkTbs g l h) H :=
  ⟨fun P hP => tabG_nil (hg P hP), fun p hp => LamX.TabS.nil (hl p hp)⟩
end Lf

set_option maxHeartbeats 4000000
namespace Lf
open PySem PySem.Spec PyProof.Rows L2 GxR GxA SrT

theorem all_ok {P : Program} {w : World} {K : PySem.W.Frag} {mg : Str → Option Value} {base : Heap} {Ps : Tbs} {f1 c1 f2 c2 f3 c3 f4 c4 f5 c5 f6 c6 f7 c7 f8 c8 f9 c9 f10 c10 f11 c11 f12 c12 f13 c13 f14 c14 f15 c15 f16 c16 f17 c17 f18 c18 f19 c19 f20 c20 f21 c21 f22 c22 f23 c23 f24 c24 f25 c25 f26 c26 f27 c27 f28 c28 f29 c29 f30 c30 f31 c31 f32 c32 f33 c33 f34 c34 f35 c35 f36 c36 f37 c37 f38 c38 f39 c39 f40 c40 : Addr} {d1 d2 d3 d4 d5 d6 d7 d8 d9 d10 d11 d12 d13 d14 d15 d16 d17 d18 d19 d20 d21 d22 d23 d24 d25 d26 d27 d28 d29 d30 d31 d32 d33 d34 d35 d36 d37 d38 d39 d40 : FuncData} {P3 P4 P6 P7 P11 P38 : Addr} {t_MOST_POINTS t_MOST_IN_FACE t_MOST_FACES : Tok} {k_NoStack k_NoNumber k_NoPart k_NoLot k_NoRow k_NoOrder k_NoNames k_NoRim k_NoTaking k_NoText k_NoLine k_NoDeed k_TooGreat k_Lay : Addr}
    (D1 : Def K mg "is_within" sWithin ["thing", "least", "most"] f1 d1 c1)
    (D2 : Def K mg "need_within" sNeedWithin ["number", "least", "most"] f2 d2 c2)
    (D3 : Def K mg "all_below" sBelow ["thing", "many"] f3 d3 c3)
    (D4 : Def K mg "rises" sRises ["things"] f4 d4 c4)
    (D5 : Def K mg "is_rising" sRising ["thing", "many"] f5 d5 c5)
    (D6 : Def K mg "has_all" sHasAll ["face", "points"] f6 d6 c6)
    (D7 : Def K mg "in_some" sInSome ["points", "faces"] f7 d7 c7)
    (D8 : Def K mg "less" sLess ["face", "points"] f8 d8 c8)
    (D9 : Def K mg "parts_in" sParts ["face"] f9 d9 c9)
    (D10 : Def K mg "is_stack" sIsStack ["thing"] f10 d10 c10)
    (D11 : Def K mg "are_faces" sAreFaces ["n", "k", "thing"] f11 d11 c11)
    (D12 : Def K mg "need_stack" sNeedStack ["stack"] f12 d12 c12)
    (D13 : Def K mg "need_face" sNeedFace ["stack", "number"] f13 d13 c13)
    (D14 : Def K mg "need_lot" sNeedLot ["stack", "lot"] f14 d14 c14)
    (D15 : Def K mg "need_face_beside" sBeside ["stack", "lot", "number"] f15 d15 c15)
    (D16 : Def K mg "faces_at" sFacesAt ["stack", "lot"] f16 d16 c16)
    (D17 : Def K mg "brought_on" sBrOn ["laid", "face"] f17 d17 c17)
    (D18 : Def K mg "lies_on" sLies ["laid", "face"] f18 d18 c18)
    (D19 : Def K mg "may_lay" sMayLay ["stack", "lot", "number"] f19 d19 c19)
    (D20 : Def K mg "brought" sBrought ["stack", "lot", "number"] f20 d20 c20)
    (D21 : Def K mg "new_parts" sNewParts ["stack", "lot", "number"] f21 d21 c21)
    (D22 : Def K mg "_law_kinds" sKinds ["_law_e"] f22 d22 c22)
    (D23 : Def K mg "_law_refused" sRefused ["_law_call"] f23 d23 c23)
    (D24 : Def K mg "_law_same" sSame ["_law_found", "_law_due"] f24 d24 c24)
    (D25 : Def K mg "_law_cell" sCell ["_law_script", "_law_k"] f25 d25 c25)
    (D26 : Def K mg "_law_pen" sPen ["_law_cell_here"] f26 d26 c26)
    (D27 : Def K mg "_law_draw" sDraw ["_law_pen_here", "_law_many"] f27 d27 c27)
    (D28 : Def K mg "_law_all" sAll ["_law_n", "_law_k"] f28 d28 c28)
    (D29 : Def K mg "_law_stack" sStack ["_law_pen_here", "_law_most"] f29 d29 c29)
    (D30 : Def K mg "_law_within" sWithinL ["_law_part", "_law_face"] f30 d30 c30)
    (D31 : Def K mg "_law_lot" sLot ["_law_pen_here", "_law_stack_here"] f31 d31 c31)
    (D32 : Def K mg "_law_common" sCommon ["_law_one", "_law_other"] f32 d32 c32)
    (D33 : Def K mg "_law_may" sMay ["_law_k", "_law_faces", "_law_face"] f33 d33 c33)
    (D34 : Def K mg "_law_brought" sBroughtL ["_law_faces", "_law_face"] f34 d34 c34)
    (D35 : Def K mg "_law_at" sAt ["_law_stack_here", "_law_numbers"] f35 d35 c35)
    (D36 : Def K mg "_law_laid_row" sLaid ["_law_pen_here", "_law_stack_here"] f36 d36 c36)
    (D37 : Def K mg "_law_new" sNewL ["_law_stack_here", "_law_faces", "_law_face"] f37 d37 c37)
    (D38 : Def K mg "_law_right" sRight10 ["_law_stack_here", "_law_lot_here"] f38 d38 c38)
    (D39 : Def K mg "_law_wide_right" sWide10 [] f39 d39 c39)
    (D40 : Def K mg "law" sLaw ["_law_script"] f40 d40 c40)
    (B3 : TabB base mg c3 P3) (M3 : P3 ∈ Ps)
    (B4 : TabB base mg c4 P4) (M4 : P4 ∈ Ps)
    (B6 : TabB base mg c6 P6) (M6 : P6 ∈ Ps)
    (B7 : TabB base mg c7 P7) (M7 : P7 ∈ Ps)
    (B11 : TabB base mg c11 P11) (M11 : P11 ∈ Ps)
    (TL38 : LamX.TabB base mg c38 P38) (ML38 : (P38, (envOfC "_law_right" (defScope sRight10) 0 0 (.ref 0)).qual ++ "<lambda>") ∈ Ps.lam)
    (m_isinstance : mg "isinstance" = none)
    (m_int : mg "int" = none)
    (m_bool : mg "bool" = none)
    (m_tuple : mg "tuple" = none)
    (m_all : mg "all" = none)
    (m_any : mg "any" = none)
    (m_range : mg "range" = none)
    (m_len : mg "len" = none)
    (m_sorted : mg "sorted" = none)
    (m_min : mg "min" = none)
    (m_set : mg "set" = none)
    (m_list : mg "list" = none)
    (m_str : mg "str" = none)
    (m_zip : mg "zip" = none)
    (m_enumerate : mg "enumerate" = none)
    (m_ValueError : mg "ValueError" = none)
    (n_MOST_POINTS : mg "MOST_POINTS" = some (.int 8 t_MOST_POINTS))
    (n_MOST_IN_FACE : mg "MOST_IN_FACE" = some (.int 4 t_MOST_IN_FACE))
    (n_MOST_FACES : mg "MOST_FACES" = some (.int 70 t_MOST_FACES))
    (G : Kinds mg (fun j => ([k_NoStack, k_NoNumber, k_NoPart, k_NoLot, k_NoRow, k_NoOrder, k_NoNames, k_NoRim, k_NoTaking, k_NoText, k_NoLine, k_NoDeed, k_TooGreat] : List Addr).getD j 0))
    (gL : mg "LayError" = some (.ref k_Lay))
    (R_NoNumber : Ref K mg "NoNumber" k_NoNumber)
    (K_NoNumber : Kind K (fun j => ([k_NoStack, k_NoNumber, k_NoPart, k_NoLot, k_NoRow, k_NoOrder, k_NoNames, k_NoRim, k_NoTaking, k_NoText, k_NoLine, k_NoDeed, k_TooGreat] : List Addr).getD j 0) k_Lay 1 k_NoNumber) :
    FnOk P w K mg base CX0 14 f40 d40 ["_law_script"] (spLaw K Ps) := by
  have within : FnOk P w K mg base CX0 1 f1 d1 ["thing", "least", "most"] spWithin := ok_within (k := 0) D1 m_isinstance m_int m_bool
  have below : FnOk P w K mg base CX0 3 f3 d3 ["thing", "many"] (spBelow K Ps) := ok_below (k := 0) D3 D1 B3 M3 m_isinstance m_int m_bool m_tuple m_all
  have rises : FnOk P w K mg base CX0 2 f4 d4 ["things"] (spRises K Ps) := ok_rises (k := 0) D4 B4 M4 m_all m_range m_len
  have rising : FnOk P w K mg base CX0 4 f5 d5 ["thing", "many"] (spRising K Ps) := ok_rising (k := 0) D5 D3 D4 below (rises.mono (by decide))
  have areFaces : FnOk P w K mg base CX0 6 f11 d11 ["n", "k", "thing"] (spAreFaces K Ps) := ok_areFaces (k := 4) D11 D5 rising D4 (rises.mono (by decide)) B11 M11 m_isinstance m_tuple m_len m_all n_MOST_FACES
  have isStack : FnOk P w K mg base CX0 7 f10 d10 ["thing"] (spIsStack K Ps) := ok_isStack D10 D1 (within.mono (by decide)) D11 areFaces m_isinstance m_tuple m_len m_min n_MOST_POINTS n_MOST_IN_FACE
  have needStack : FnOk P w K mg base CX0 8 f12 d12 ["stack"] (spNeedStack K Ps) := ok_needStack D12 D10 isStack
  have needWithin : FnOk P w K mg base CX0 2 f2 d2 ["number", "least", "most"] spNeedWithin := ok_needWithin D2 D1 within
  have needFace : FnOk P w K mg base CX0 3 f13 d13 ["stack", "number"] (spNeedFace K) := ok_needFace D13 D2 needWithin m_len
  have needLot : FnOk P w K mg base CX0 5 f14 d14 ["stack", "lot"] (spNeedLot K Ps) := ok_needLot D14 D5 rising m_len
  have beside : FnOk P w K mg base CX0 4 f15 d15 ["stack", "lot", "number"] (spBeside K) := ok_beside D15 D13 needFace
  have hasAll : FnOk P w K mg base CX0 2 f6 d6 ["face", "points"] (spHasAll K Ps) := ok_hasAll (k := 0) D6 B6 M6 m_all
  have inSome : FnOk P w K mg base CX0 4 f7 d7 ["points", "faces"] (spInSome K Ps) := ok_inSome (k := 0) D7 D6 hasAll B7 M7 m_any
  have less : FnOk P w K mg base CX0 1 f8 d8 ["face", "points"] (spLess K Ps) := ok_less (k := 0) D8 m_tuple
  have partsH : FnOk P w K mg base CX0 1 f9 d9 ["face"] (spPartsH K Ps) := ok_partsH (k := 0) D9 m_sorted
  have facesAtF : FnOk P w K mg base CX0 1 f16 d16 ["stack", "lot"] (spFacesAtF K Ps) := ok_facesAtF (k := 0) D16
  have facesAt : FnOk P w K mg base CX0 1 f16 d16 ["stack", "lot"] (spFacesAt K Ps) := ok_facesAt (k := 0) D16
  have brOn : FnOk P w K mg base CX0 5 f17 d17 ["laid", "face"] (spBrOn K Ps) := ok_brOn D17 D7 inSome D8 (less.mono (by decide)) m_tuple
  have lies : FnOk P w K mg base CX0 6 f18 d18 ["laid", "face"] (spLies K Ps) := ok_lies D18 D7 (inSome.mono (by decide)) D17 brOn
  have inSomeT : FnOk P w K mg base CX0 4 f7 d7 ["points", "faces"] (spInSomeT K Ps) := ok_inSomeT (k := 0) D7 D6 hasAll B7 M7 m_any
  have partsI : FnOk P w K mg base CX0 1 f9 d9 ["face"] (spParts K Ps) := ok_parts (k := 0) D9 m_sorted
  have cell : FnOk P w K mg base CX0 1 f25 d25 ["_law_script", "_law_k"] (spCell K) := ok_cell (k := 0) D25 m_len
  have pen : FnOk P w K mg base CX0 1 f26 d26 ["_law_cell_here"] (spPen Ps) := ok_pen (k := 0) D26 m_int
  have draw : FnOk P w K mg base CX0 1 f27 d27 ["_law_pen_here", "_law_many"] spDraw := ok_draw (k := 0) D27
  have all_ : FnOk P w K mg base CX0 1 f28 d28 ["_law_n", "_law_k"] (spAll K Ps) := ok_all (k := 0) D28 m_range m_len m_sorted
  have stack_ : FnOk P w K mg base CX0 2 f29 d29 ["_law_pen_here", "_law_most"] (spStack K Ps) := ok_stack D29 D27 draw D28 all_ m_range m_len m_tuple m_sorted m_set m_min
  have withinL : FnOk P w K mg base CX0 1 f30 d30 ["_law_part", "_law_face"] (spWithinL K Ps) := ok_withinL (k := 0) D30
  have common : FnOk P w K mg base CX0 1 f32 d32 ["_law_one", "_law_other"] (spCommon K Ps) := ok_common (k := 0) D32
  have at_ : FnOk P w K mg base CX0 1 f35 d35 ["_law_stack_here", "_law_numbers"] (spAt K Ps) := ok_at (k := 0) D35
  have may : FnOk P w K mg base CX0 2 f33 d33 ["_law_k", "_law_faces", "_law_face"] (spMay K Ps) := ok_may D33 D32 common D30 withinL m_len
  have laid : FnOk P w K mg base CX0 3 f36 d36 ["_law_pen_here", "_law_stack_here"] (spLaid K Ps) := ok_laid D36 D27 (draw.mono (by decide)) D35 (at_.mono (by decide)) D33 may m_range m_len m_tuple m_list
  have commonE : FnOk P w K mg base CX0 1 f32 d32 ["_law_one", "_law_other"] (spCommonE K Ps) := ok_commonE (k := 0) D32
  have mayE : FnOk P w K mg base CX0 2 f33 d33 ["_law_k", "_law_faces", "_law_face"] (spMayE K Ps) := ok_mayE D33 D32 commonE D30 withinL m_len
  have atT : FnOk P w K mg base CX0 1 f35 d35 ["_law_stack_here", "_law_numbers"] (spAtT K Ps) := ok_atT (k := 0) D35
  have broughtL : FnOk P w K mg base CX0 2 f34 d34 ["_law_faces", "_law_face"] (spBroughtL K Ps) := ok_broughtL D34 D30 withinL m_tuple
  have same_ : FnOk P w K mg base CX0 5 f24 d24 ["_law_found", "_law_due"] (spSame K Ps 5) := ok_same D24 m_isinstance m_list m_tuple m_str m_bool m_int m_len m_all m_zip 5
  have mayA : FnOk P w K mg base CX0 9 f19 d19 ["stack", "lot", "number"] (spMayA K Ps) := ok_mayA D19 D12 needStack D14 (needLot.mono (by decide)) D13 (needFace.mono (by decide)) D16 (facesAt.mono (by decide)) D18 (lies.mono (by decide))
  have brought_ : FnOk P w K mg base CX0 9 f20 d20 ["stack", "lot", "number"] (spBrought K Ps) := ok_brought D20 D12 needStack D14 (needLot.mono (by decide)) D15 (beside.mono (by decide)) D16 (facesAt.mono (by decide)) D17 (brOn.mono (by decide))
  have newPartsN : FnOk P w K mg base CX0 9 f21 d21 ["stack", "lot", "number"] (spNewPartsN K Ps) := ok_newPartsN D21 D12 needStack D14 (needLot.mono (by decide)) D15 (beside.mono (by decide)) D16 (facesAt.mono (by decide)) D9 (partsH.mono (by decide)) D7 (inSome.mono (by decide))
  have besideIn : FnOk P w K mg base (L2.CX P w) 4 f15 d15 ["stack", "lot", "number"] (spBesideIn K k_NoNumber) := ok_besideIn D15 D13 (fn_lift needFace) R_NoNumber
  have broughtIn : FnOk P w K mg base (L2.CX P w) 9 f20 d20 ["stack", "lot", "number"] (spInX K Ps k_NoNumber) := ok_broughtIn D20 D12 (fn_lift needStack) D14 (fn_lift (needLot.mono (by decide))) D15 (besideIn.mono (by decide))
  have newPartsIn : FnOk P w K mg base (L2.CX P w) 9 f21 d21 ["stack", "lot", "number"] (spInX K Ps k_NoNumber) := ok_newPartsIn D21 D12 (fn_lift needStack) D14 (fn_lift (needLot.mono (by decide))) D15 (besideIn.mono (by decide))
  have lot_ : FnOk P w K mg base CX0 2 f31 d31 ["_law_pen_here", "_law_stack_here"] (spLot K Ps) := ok_lot D31 D27 draw m_range m_len m_tuple
  have newL : FnOk P w K mg base CX0 2 f37 d37 ["_law_stack_here", "_law_faces", "_law_face"] (spNewL K Ps) := ok_newL D37 D28 all_ D30 withinL m_range m_sorted
  have right10 : FnOk P w K mg base CX0 12 f38 d38 ["_law_stack_here", "_law_lot_here"] (spRight10 K Ps) := ok_right10 (k := 9) D38 D35 (atT.mono (by decide)) D33 (mayE.mono (by decide)) D24 (same_.mono (by decide)) D19 (mayA.mono (by decide)) D20 (brought_.mono (by decide)) D34 (broughtL.mono (by decide)) D21 (newPartsN.mono (by decide)) D37 (newL.mono (by decide)) broughtIn newPartsIn D23 D22 G gL K_NoNumber TL38 ML38 m_isinstance m_ValueError m_enumerate m_range
  have wide10 : FnOk P w K mg base CX0 13 f39 d39 [] (spWide10 Ps) := ok_wide10 D39 D28 (all_.mono (by decide)) D38 right10 m_tuple m_range
  have lawG : FnOk P w K mg base CX0 14 f40 d40 ["_law_script"] (spLaw K Ps) := ok_law D40 D25 (cell.mono (by decide)) D26 (pen.mono (by decide)) D29 (stack_.mono (by decide)) D36 (laid.mono (by decide)) D27 (draw.mono (by decide)) D31 (lot_.mono (by decide)) D38 (right10.mono (by decide)) D39 wide10 m_len m_tuple m_sorted m_all
  exact lawG

theorem all_mk {l : PySem.W.OpenLaw} {w : World} {K : PySem.W.Frag} {h : Heap} {mg mb : Str → Option Value} {q : Program} {loose : List Str} {mean : ExcName → Option Value} {fa : Addr} (T : PyProof.Rows.Top q loose mean mg mb h) (X : K.In h) (hfa : mg "law" = some (.ref fa))
    {f1 c1 f2 c2 f3 c3 f4 c4 f5 c5 f6 c6 f7 c7 f8 c8 f9 c9 f10 c10 f11 c11 f12 c12 f13 c13 f14 c14 f15 c15 f16 c16 f17 c17 f18 c18 f19 c19 f20 c20 f21 c21 f22 c22 f23 c23 f24 c24 f25 c25 f26 c26 f27 c27 f28 c28 f29 c29 f30 c30 f31 c31 f32 c32 f33 c33 f34 c34 f35 c35 f36 c36 f37 c37 f38 c38 f39 c39 f40 c40 : Addr} {oc1 kV1 dc1 pm1 ct1 oc2 kV2 dc2 pm2 ct2 oc3 kV3 dc3 pm3 ct3 oc4 kV4 dc4 pm4 ct4 oc5 kV5 dc5 pm5 ct5 oc6 kV6 dc6 pm6 ct6 oc7 kV7 dc7 pm7 ct7 oc8 kV8 dc8 pm8 ct8 oc9 kV9 dc9 pm9 ct9 oc10 kV10 dc10 pm10 ct10 oc11 kV11 dc11 pm11 ct11 oc12 kV12 dc12 pm12 ct12 oc13 kV13 dc13 pm13 ct13 oc14 kV14 dc14 pm14 ct14 oc15 kV15 dc15 pm15 ct15 oc16 kV16 dc16 pm16 ct16 oc17 kV17 dc17 pm17 ct17 oc18 kV18 dc18 pm18 ct18 oc19 kV19 dc19 pm19 ct19 oc20 kV20 dc20 pm20 ct20 oc21 kV21 dc21 pm21 ct21 oc22 kV22 dc22 pm22 ct22 oc23 kV23 dc23 pm23 ct23 oc24 kV24 dc24 pm24 ct24 oc25 kV25 dc25 pm25 ct25 oc26 kV26 dc26 pm26 ct26 oc27 kV27 dc27 pm27 ct27 oc28 kV28 dc28 pm28 ct28 oc29 kV29 dc29 pm29 ct29 oc30 kV30 dc30 pm30 ct30 oc31 kV31 dc31 pm31 ct31 oc32 kV32 dc32 pm32 ct32 oc33 kV33 dc33 pm33 ct33 oc34 kV34 dc34 pm34 ct34 oc35 kV35 dc35 pm35 ct35 oc36 kV36 dc36 pm36 ct36 oc37 kV37 dc37 pm37 ct37 oc38 kV38 dc38 pm38 ct38 oc39 kV39 dc39 pm39 ct39 oc40 kV40 dc40 pm40 ct40 : Value} {od1 an1 od2 an2 od3 an3 od4 an4 od5 an5 od6 an6 od7 an7 od8 an8 od9 an9 od10 an10 od11 an11 od12 an12 od13 an13 od14 an14 od15 an15 od16 an16 od17 an17 od18 an18 od19 an19 od20 an20 od21 an21 od22 an22 od23 an23 od24 an24 od25 an25 od26 an26 od27 an27 od28 an28 od29 an29 od30 an30 od31 an31 od32 an32 od33 an33 od34 an34 od35 an35 od36 an36 od37 an37 od38 an38 od39 an39 od40 an40 : Option Addr} {sl1 sl2 sl3 sl4 sl5 sl6 sl7 sl8 sl9 sl10 sl11 sl12 sl13 sl14 sl15 sl16 sl17 sl18 sl19 sl20 sl21 sl22 sl23 sl24 sl25 sl26 sl27 sl28 sl29 sl30 sl31 sl32 sl33 sl34 sl35 sl36 sl37 sl38 sl39 sl40 : Array (Option Value)}
    {P3 P4 P6 P7 P11 P38 : Addr} {te3 te4 te6 te7 te11 te38 : Value} {td3 td4 td6 td7 td11 td38 : Option Addr} {tv3 tv4 tv6 tv7 tv11 tv38 : Array Value} {ts3 ts4 ts6 ts7 ts11 ts38 : Array (Option Value)} {t_MOST_POINTS t_MOST_IN_FACE t_MOST_FACES : Tok} {k_NoStack k_NoNumber k_NoPart k_NoLot k_NoRow k_NoOrder k_NoNames k_NoRim k_NoTaking k_NoText k_NoLine k_NoDeed k_TooGreat k_Lay : Addr}
    (a1 : PySem.W.nsIn K mainGlobals "is_within" = some (some (.ref f1))) (l1 : K.lookup f1 = some ⟨oc1, od1, .func (PySem.W.fnOf "is_within" "is_within" (defArgs sWithin) (defBody sWithin) (defScope sWithin) .none kV1 dc1 pm1 an1 (.ref c1) ct1), sl1⟩) (i1 : PySem.W.codeIn K (.ref c1) "is_within" = true) (k1 : PySem.W.keepIn K (.ref f1) = true)
    (a2 : PySem.W.nsIn K mainGlobals "need_within" = some (some (.ref f2))) (l2 : K.lookup f2 = some ⟨oc2, od2, .func (PySem.W.fnOf "need_within" "need_within" (defArgs sNeedWithin) (defBody sNeedWithin) (defScope sNeedWithin) .none kV2 dc2 pm2 an2 (.ref c2) ct2), sl2⟩) (i2 : PySem.W.codeIn K (.ref c2) "need_within" = true) (k2 : PySem.W.keepIn K (.ref f2) = true)
    (a3 : PySem.W.nsIn K mainGlobals "all_below" = some (some (.ref f3))) (l3 : K.lookup f3 = some ⟨oc3, od3, .func (PySem.W.fnOf "all_below" "all_below" (defArgs sBelow) (defBody sBelow) (defScope sBelow) .none kV3 dc3 pm3 an3 (.ref c3) ct3), sl3⟩) (i3 : PySem.W.codeIn K (.ref c3) "all_below" = true) (k3 : PySem.W.keepIn K (.ref f3) = true)
    (a4 : PySem.W.nsIn K mainGlobals "rises" = some (some (.ref f4))) (l4 : K.lookup f4 = some ⟨oc4, od4, .func (PySem.W.fnOf "rises" "rises" (defArgs sRises) (defBody sRises) (defScope sRises) .none kV4 dc4 pm4 an4 (.ref c4) ct4), sl4⟩) (i4 : PySem.W.codeIn K (.ref c4) "rises" = true) (k4 : PySem.W.keepIn K (.ref f4) = true)
    (a5 : PySem.W.nsIn K mainGlobals "is_rising" = some (some (.ref f5))) (l5 : K.lookup f5 = some ⟨oc5, od5, .func (PySem.W.fnOf "is_rising" "is_rising" (defArgs sRising) (defBody sRising) (defScope sRising) .none kV5 dc5 pm5 an5 (.ref c5) ct5), sl5⟩) (i5 : PySem.W.codeIn K (.ref c5) "is_rising" = true) (k5 : PySem.W.keepIn K (.ref f5) = true)
    (a6 : PySem.W.nsIn K mainGlobals "has_all" = some (some (.ref f6))) (l6 : K.lookup f6 = some ⟨oc6, od6, .func (PySem.W.fnOf "has_all" "has_all" (defArgs sHasAll) (defBody sHasAll) (defScope sHasAll) .none kV6 dc6 pm6 an6 (.ref c6) ct6), sl6⟩) (i6 : PySem.W.codeIn K (.ref c6) "has_all" = true) (k6 : PySem.W.keepIn K (.ref f6) = true)
    (a7 : PySem.W.nsIn K mainGlobals "in_some" = some (some (.ref f7))) (l7 : K.lookup f7 = some ⟨oc7, od7, .func (PySem.W.fnOf "in_some" "in_some" (defArgs sInSome) (defBody sInSome) (defScope sInSome) .none kV7 dc7 pm7 an7 (.ref c7) ct7), sl7⟩) (i7 : PySem.W.codeIn K (.ref c7) "in_some" = true) (k7 : PySem.W.keepIn K (.ref f7) = true)
    (a8 : PySem.W.nsIn K mainGlobals "less" = some (some (.ref f8))) (l8 : K.lookup f8 = some ⟨oc8, od8, .func (PySem.W.fnOf "less" "less" (defArgs sLess) (defBody sLess) (defScope sLess) .none kV8 dc8 pm8 an8 (.ref c8) ct8), sl8⟩) (i8 : PySem.W.codeIn K (.ref c8) "less" = true) (k8 : PySem.W.keepIn K (.ref f8) = true)
    (a9 : PySem.W.nsIn K mainGlobals "parts_in" = some (some (.ref f9))) (l9 : K.lookup f9 = some ⟨oc9, od9, .func (PySem.W.fnOf "parts_in" "parts_in" (defArgs sParts) (defBody sParts) (defScope sParts) .none kV9 dc9 pm9 an9 (.ref c9) ct9), sl9⟩) (i9 : PySem.W.codeIn K (.ref c9) "parts_in" = true) (k9 : PySem.W.keepIn K (.ref f9) = true)
    (a10 : PySem.W.nsIn K mainGlobals "is_stack" = some (some (.ref f10))) (l10 : K.lookup f10 = some ⟨oc10, od10, .func (PySem.W.fnOf "is_stack" "is_stack" (defArgs sIsStack) (defBody sIsStack) (defScope sIsStack) .none kV10 dc10 pm10 an10 (.ref c10) ct10), sl10⟩) (i10 : PySem.W.codeIn K (.ref c10) "is_stack" = true) (k10 : PySem.W.keepIn K (.ref f10) = true)
    (a11 : PySem.W.nsIn K mainGlobals "are_faces" = some (some (.ref f11))) (l11 : K.lookup f11 = some ⟨oc11, od11, .func (PySem.W.fnOf "are_faces" "are_faces" (defArgs sAreFaces) (defBody sAreFaces) (defScope sAreFaces) .none kV11 dc11 pm11 an11 (.ref c11) ct11), sl11⟩) (i11 : PySem.W.codeIn K (.ref c11) "are_faces" = true) (k11 : PySem.W.keepIn K (.ref f11) = true)
    (a12 : PySem.W.nsIn K mainGlobals "need_stack" = some (some (.ref f12))) (l12 : K.lookup f12 = some ⟨oc12, od12, .func (PySem.W.fnOf "need_stack" "need_stack" (defArgs sNeedStack) (defBody sNeedStack) (defScope sNeedStack) .none kV12 dc12 pm12 an12 (.ref c12) ct12), sl12⟩) (i12 : PySem.W.codeIn K (.ref c12) "need_stack" = true) (k12 : PySem.W.keepIn K (.ref f12) = true)
    (a13 : PySem.W.nsIn K mainGlobals "need_face" = some (some (.ref f13))) (l13 : K.lookup f13 = some ⟨oc13, od13, .func (PySem.W.fnOf "need_face" "need_face" (defArgs sNeedFace) (defBody sNeedFace) (defScope sNeedFace) .none kV13 dc13 pm13 an13 (.ref c13) ct13), sl13⟩) (i13 : PySem.W.codeIn K (.ref c13) "need_face" = true) (k13 : PySem.W.keepIn K (.ref f13) = true)
    (a14 : PySem.W.nsIn K mainGlobals "need_lot" = some (some (.ref f14))) (l14 : K.lookup f14 = some ⟨oc14, od14, .func (PySem.W.fnOf "need_lot" "need_lot" (defArgs sNeedLot) (defBody sNeedLot) (defScope sNeedLot) .none kV14 dc14 pm14 an14 (.ref c14) ct14), sl14⟩) (i14 : PySem.W.codeIn K (.ref c14) "need_lot" = true) (k14 : PySem.W.keepIn K (.ref f14) = true)
    (a15 : PySem.W.nsIn K mainGlobals "need_face_beside" = some (some (.ref f15))) (l15 : K.lookup f15 = some ⟨oc15, od15, .func (PySem.W.fnOf "need_face_beside" "need_face_beside" (defArgs sBeside) (defBody sBeside) (defScope sBeside) .none kV15 dc15 pm15 an15 (.ref c15) ct15), sl15⟩) (i15 : PySem.W.codeIn K (.ref c15) "need_face_beside" = true) (k15 : PySem.W.keepIn K (.ref f15) = true)
    (a16 : PySem.W.nsIn K mainGlobals "faces_at" = some (some (.ref f16))) (l16 : K.lookup f16 = some ⟨oc16, od16, .func (PySem.W.fnOf "faces_at" "faces_at" (defArgs sFacesAt) (defBody sFacesAt) (defScope sFacesAt) .none kV16 dc16 pm16 an16 (.ref c16) ct16), sl16⟩) (i16 : PySem.W.codeIn K (.ref c16) "faces_at" = true) (k16 : PySem.W.keepIn K (.ref f16) = true)
    (a17 : PySem.W.nsIn K mainGlobals "brought_on" = some (some (.ref f17))) (l17 : K.lookup f17 = some ⟨oc17, od17, .func (PySem.W.fnOf "brought_on" "brought_on" (defArgs sBrOn) (defBody sBrOn) (defScope sBrOn) .none kV17 dc17 pm17 an17 (.ref c17) ct17), sl17⟩) (i17 : PySem.W.codeIn K (.ref c17) "brought_on" = true) (k17 : PySem.W.keepIn K (.ref f17) = true)
    (a18 : PySem.W.nsIn K mainGlobals "lies_on" = some (some (.ref f18))) (l18 : K.lookup f18 = some ⟨oc18, od18, .func (PySem.W.fnOf "lies_on" "lies_on" (defArgs sLies) (defBody sLies) (defScope sLies) .none kV18 dc18 pm18 an18 (.ref c18) ct18), sl18⟩) (i18 : PySem.W.codeIn K (.ref c18) "lies_on" = true) (k18 : PySem.W.keepIn K (.ref f18) = true)
    (a19 : PySem.W.nsIn K mainGlobals "may_lay" = some (some (.ref f19))) (l19 : K.lookup f19 = some ⟨oc19, od19, .func (PySem.W.fnOf "may_lay" "may_lay" (defArgs sMayLay) (defBody sMayLay) (defScope sMayLay) .none kV19 dc19 pm19 an19 (.ref c19) ct19), sl19⟩) (i19 : PySem.W.codeIn K (.ref c19) "may_lay" = true) (k19 : PySem.W.keepIn K (.ref f19) = true)
    (a20 : PySem.W.nsIn K mainGlobals "brought" = some (some (.ref f20))) (l20 : K.lookup f20 = some ⟨oc20, od20, .func (PySem.W.fnOf "brought" "brought" (defArgs sBrought) (defBody sBrought) (defScope sBrought) .none kV20 dc20 pm20 an20 (.ref c20) ct20), sl20⟩) (i20 : PySem.W.codeIn K (.ref c20) "brought" = true) (k20 : PySem.W.keepIn K (.ref f20) = true)
    (a21 : PySem.W.nsIn K mainGlobals "new_parts" = some (some (.ref f21))) (l21 : K.lookup f21 = some ⟨oc21, od21, .func (PySem.W.fnOf "new_parts" "new_parts" (defArgs sNewParts) (defBody sNewParts) (defScope sNewParts) .none kV21 dc21 pm21 an21 (.ref c21) ct21), sl21⟩) (i21 : PySem.W.codeIn K (.ref c21) "new_parts" = true) (k21 : PySem.W.keepIn K (.ref f21) = true)
    (a22 : PySem.W.nsIn K mainGlobals "_law_kinds" = some (some (.ref f22))) (l22 : K.lookup f22 = some ⟨oc22, od22, .func (PySem.W.fnOf "_law_kinds" "_law_kinds" (defArgs sKinds) (defBody sKinds) (defScope sKinds) .none kV22 dc22 pm22 an22 (.ref c22) ct22), sl22⟩) (i22 : PySem.W.codeIn K (.ref c22) "_law_kinds" = true) (k22 : PySem.W.keepIn K (.ref f22) = true)
    (a23 : PySem.W.nsIn K mainGlobals "_law_refused" = some (some (.ref f23))) (l23 : K.lookup f23 = some ⟨oc23, od23, .func (PySem.W.fnOf "_law_refused" "_law_refused" (defArgs sRefused) (defBody sRefused) (defScope sRefused) .none kV23 dc23 pm23 an23 (.ref c23) ct23), sl23⟩) (i23 : PySem.W.codeIn K (.ref c23) "_law_refused" = true) (k23 : PySem.W.keepIn K (.ref f23) = true)
    (a24 : PySem.W.nsIn K mainGlobals "_law_same" = some (some (.ref f24))) (l24 : K.lookup f24 = some ⟨oc24, od24, .func (PySem.W.fnOf "_law_same" "_law_same" (defArgs sSame) (defBody sSame) (defScope sSame) .none kV24 dc24 pm24 an24 (.ref c24) ct24), sl24⟩) (i24 : PySem.W.codeIn K (.ref c24) "_law_same" = true) (k24 : PySem.W.keepIn K (.ref f24) = true)
    (a25 : PySem.W.nsIn K mainGlobals "_law_cell" = some (some (.ref f25))) (l25 : K.lookup f25 = some ⟨oc25, od25, .func (PySem.W.fnOf "_law_cell" "_law_cell" (defArgs sCell) (defBody sCell) (defScope sCell) .none kV25 dc25 pm25 an25 (.ref c25) ct25), sl25⟩) (i25 : PySem.W.codeIn K (.ref c25) "_law_cell" = true) (k25 : PySem.W.keepIn K (.ref f25) = true)
    (a26 : PySem.W.nsIn K mainGlobals "_law_pen" = some (some (.ref f26))) (l26 : K.lookup f26 = some ⟨oc26, od26, .func (PySem.W.fnOf "_law_pen" "_law_pen" (defArgs sPen) (defBody sPen) (defScope sPen) .none kV26 dc26 pm26 an26 (.ref c26) ct26), sl26⟩) (i26 : PySem.W.codeIn K (.ref c26) "_law_pen" = true) (k26 : PySem.W.keepIn K (.ref f26) = true)
    (a27 : PySem.W.nsIn K mainGlobals "_law_draw" = some (some (.ref f27))) (l27 : K.lookup f27 = some ⟨oc27, od27, .func (PySem.W.fnOf "_law_draw" "_law_draw" (defArgs sDraw) (defBody sDraw) (defScope sDraw) .none kV27 dc27 pm27 an27 (.ref c27) ct27), sl27⟩) (i27 : PySem.W.codeIn K (.ref c27) "_law_draw" = true) (k27 : PySem.W.keepIn K (.ref f27) = true)
    (a28 : PySem.W.nsIn K mainGlobals "_law_all" = some (some (.ref f28))) (l28 : K.lookup f28 = some ⟨oc28, od28, .func (PySem.W.fnOf "_law_all" "_law_all" (defArgs sAll) (defBody sAll) (defScope sAll) .none kV28 dc28 pm28 an28 (.ref c28) ct28), sl28⟩) (i28 : PySem.W.codeIn K (.ref c28) "_law_all" = true) (k28 : PySem.W.keepIn K (.ref f28) = true)
    (a29 : PySem.W.nsIn K mainGlobals "_law_stack" = some (some (.ref f29))) (l29 : K.lookup f29 = some ⟨oc29, od29, .func (PySem.W.fnOf "_law_stack" "_law_stack" (defArgs sStack) (defBody sStack) (defScope sStack) .none kV29 dc29 pm29 an29 (.ref c29) ct29), sl29⟩) (i29 : PySem.W.codeIn K (.ref c29) "_law_stack" = true) (k29 : PySem.W.keepIn K (.ref f29) = true)
    (a30 : PySem.W.nsIn K mainGlobals "_law_within" = some (some (.ref f30))) (l30 : K.lookup f30 = some ⟨oc30, od30, .func (PySem.W.fnOf "_law_within" "_law_within" (defArgs sWithinL) (defBody sWithinL) (defScope sWithinL) .none kV30 dc30 pm30 an30 (.ref c30) ct30), sl30⟩) (i30 : PySem.W.codeIn K (.ref c30) "_law_within" = true) (k30 : PySem.W.keepIn K (.ref f30) = true)
    (a31 : PySem.W.nsIn K mainGlobals "_law_lot" = some (some (.ref f31))) (l31 : K.lookup f31 = some ⟨oc31, od31, .func (PySem.W.fnOf "_law_lot" "_law_lot" (defArgs sLot) (defBody sLot) (defScope sLot) .none kV31 dc31 pm31 an31 (.ref c31) ct31), sl31⟩) (i31 : PySem.W.codeIn K (.ref c31) "_law_lot" = true) (k31 : PySem.W.keepIn K (.ref f31) = true)
    (a32 : PySem.W.nsIn K mainGlobals "_law_common" = some (some (.ref f32))) (l32 : K.lookup f32 = some ⟨oc32, od32, .func (PySem.W.fnOf "_law_common" "_law_common" (defArgs sCommon) (defBody sCommon) (defScope sCommon) .none kV32 dc32 pm32 an32 (.ref c32) ct32), sl32⟩) (i32 : PySem.W.codeIn K (.ref c32) "_law_common" = true) (k32 : PySem.W.keepIn K (.ref f32) = true)
    (a33 : PySem.W.nsIn K mainGlobals "_law_may" = some (some (.ref f33))) (l33 : K.lookup f33 = some ⟨oc33, od33, .func (PySem.W.fnOf "_law_may" "_law_may" (defArgs sMay) (defBody sMay) (defScope sMay) .none kV33 dc33 pm33 an33 (.ref c33) ct33), sl33⟩) (i33 : PySem.W.codeIn K (.ref c33) "_law_may" = true) (k33 : PySem.W.keepIn K (.ref f33) = true)
    (a34 : PySem.W.nsIn K mainGlobals "_law_brought" = some (some (.ref f34))) (l34 : K.lookup f34 = some ⟨oc34, od34, .func (PySem.W.fnOf "_law_brought" "_law_brought" (defArgs sBroughtL) (defBody sBroughtL) (defScope sBroughtL) .none kV34 dc34 pm34 an34 (.ref c34) ct34), sl34⟩) (i34 : PySem.W.codeIn K (.ref c34) "_law_brought" = true) (k34 : PySem.W.keepIn K (.ref f34) = true)
    (a35 : PySem.W.nsIn K mainGlobals "_law_at" = some (some (.ref f35))) (l35 : K.lookup f35 = some ⟨oc35, od35, .func (PySem.W.fnOf "_law_at" "_law_at" (defArgs sAt) (defBody sAt) (defScope sAt) .none kV35 dc35 pm35 an35 (.ref c35) ct35), sl35⟩) (i35 : PySem.W.codeIn K (.ref c35) "_law_at" = true) (k35 : PySem.W.keepIn K (.ref f35) = true)
    (a36 : PySem.W.nsIn K mainGlobals "_law_laid_row" = some (some (.ref f36))) (l36 : K.lookup f36 = some ⟨oc36, od36, .func (PySem.W.fnOf "_law_laid_row" "_law_laid_row" (defArgs sLaid) (defBody sLaid) (defScope sLaid) .none kV36 dc36 pm36 an36 (.ref c36) ct36), sl36⟩) (i36 : PySem.W.codeIn K (.ref c36) "_law_laid_row" = true) (k36 : PySem.W.keepIn K (.ref f36) = true)
    (a37 : PySem.W.nsIn K mainGlobals "_law_new" = some (some (.ref f37))) (l37 : K.lookup f37 = some ⟨oc37, od37, .func (PySem.W.fnOf "_law_new" "_law_new" (defArgs sNewL) (defBody sNewL) (defScope sNewL) .none kV37 dc37 pm37 an37 (.ref c37) ct37), sl37⟩) (i37 : PySem.W.codeIn K (.ref c37) "_law_new" = true) (k37 : PySem.W.keepIn K (.ref f37) = true)
    (a38 : PySem.W.nsIn K mainGlobals "_law_right" = some (some (.ref f38))) (l38 : K.lookup f38 = some ⟨oc38, od38, .func (PySem.W.fnOf "_law_right" "_law_right" (defArgs sRight10) (defBody sRight10) (defScope sRight10) .none kV38 dc38 pm38 an38 (.ref c38) ct38), sl38⟩) (i38 : PySem.W.codeIn K (.ref c38) "_law_right" = true) (k38 : PySem.W.keepIn K (.ref f38) = true)
    (a39 : PySem.W.nsIn K mainGlobals "_law_wide_right" = some (some (.ref f39))) (l39 : K.lookup f39 = some ⟨oc39, od39, .func (PySem.W.fnOf "_law_wide_right" "_law_wide_right" (defArgs sWide10) (defBody sWide10) (defScope sWide10) .none kV39 dc39 pm39 an39 (.ref c39) ct39), sl39⟩) (i39 : PySem.W.codeIn K (.ref c39) "_law_wide_right" = true) (k39 : PySem.W.keepIn K (.ref f39) = true)
    (a40 : PySem.W.nsIn K mainGlobals "law" = some (some (.ref f40))) (l40 : K.lookup f40 = some ⟨oc40, od40, .func (PySem.W.fnOf "law" "law" (defArgs sLaw) (defBody sLaw) (defScope sLaw) .none kV40 dc40 pm40 an40 (.ref c40) ct40), sl40⟩) (i40 : PySem.W.codeIn K (.ref c40) "law" = true) (k40 : PySem.W.keepIn K (.ref f40) = true)
    (u3 : K.lookup c3 = some ⟨te3, td3, .fields tv3, ts3⟩) (v3 : tv3[11]? = some (.ref P3)) (w3 : K.lookup P3 = none) (r3 : ((PyProof.Rows.recsOf q).any fun e => e.name == ("all_below" : Str)) = true)
    (u4 : K.lookup c4 = some ⟨te4, td4, .fields tv4, ts4⟩) (v4 : tv4[11]? = some (.ref P4)) (w4 : K.lookup P4 = none) (r4 : ((PyProof.Rows.recsOf q).any fun e => e.name == ("rises" : Str)) = true)
    (u6 : K.lookup c6 = some ⟨te6, td6, .fields tv6, ts6⟩) (v6 : tv6[11]? = some (.ref P6)) (w6 : K.lookup P6 = none) (r6 : ((PyProof.Rows.recsOf q).any fun e => e.name == ("has_all" : Str)) = true)
    (u7 : K.lookup c7 = some ⟨te7, td7, .fields tv7, ts7⟩) (v7 : tv7[11]? = some (.ref P7)) (w7 : K.lookup P7 = none) (r7 : ((PyProof.Rows.recsOf q).any fun e => e.name == ("in_some" : Str)) = true)
    (u11 : K.lookup c11 = some ⟨te11, td11, .fields tv11, ts11⟩) (v11 : tv11[11]? = some (.ref P11)) (w11 : K.lookup P11 = none) (r11 : ((PyProof.Rows.recsOf q).any fun e => e.name == ("are_faces" : Str)) = true)
    (u38 : K.lookup c38 = some ⟨te38, td38, .fields tv38, ts38⟩) (v38 : tv38[11]? = some (.ref P38)) (w38 : K.lookup P38 = none) (r38 : ((PyProof.Rows.recsOf q).any fun e => e.name == ("_law_right" : Str)) = true)
    (z_isinstance : PySem.W.nsIn K mainGlobals "isinstance" = some none)
    (z_int : PySem.W.nsIn K mainGlobals "int" = some none)
    (z_bool : PySem.W.nsIn K mainGlobals "bool" = some none)
    (z_tuple : PySem.W.nsIn K mainGlobals "tuple" = some none)
    (z_all : PySem.W.nsIn K mainGlobals "all" = some none)
    (z_any : PySem.W.nsIn K mainGlobals "any" = some none)
    (z_range : PySem.W.nsIn K mainGlobals "range" = some none)
    (z_len : PySem.W.nsIn K mainGlobals "len" = some none)
    (z_sorted : PySem.W.nsIn K mainGlobals "sorted" = some none)
    (z_min : PySem.W.nsIn K mainGlobals "min" = some none)
    (z_set : PySem.W.nsIn K mainGlobals "set" = some none)
    (z_list : PySem.W.nsIn K mainGlobals "list" = some none)
    (z_str : PySem.W.nsIn K mainGlobals "str" = some none)
    (z_zip : PySem.W.nsIn K mainGlobals "zip" = some none)
    (z_enumerate : PySem.W.nsIn K mainGlobals "enumerate" = some none)
    (z_ValueError : PySem.W.nsIn K mainGlobals "ValueError" = some none)
    (y_MOST_POINTS : PySem.W.nsIn K mainGlobals "MOST_POINTS" = some (some (.int 8 t_MOST_POINTS)))
    (y_MOST_IN_FACE : PySem.W.nsIn K mainGlobals "MOST_IN_FACE" = some (some (.int 4 t_MOST_IN_FACE)))
    (y_MOST_FACES : PySem.W.nsIn K mainGlobals "MOST_FACES" = some (some (.int 70 t_MOST_FACES)))
    (b_NoStack : PySem.W.nsIn K mainGlobals "NoStack" = some (some (.ref k_NoStack)))
    (b_NoNumber : PySem.W.nsIn K mainGlobals "NoNumber" = some (some (.ref k_NoNumber)))
    (b_NoPart : PySem.W.nsIn K mainGlobals "NoPart" = some (some (.ref k_NoPart)))
    (b_NoLot : PySem.W.nsIn K mainGlobals "NoLot" = some (some (.ref k_NoLot)))
    (b_NoRow : PySem.W.nsIn K mainGlobals "NoRow" = some (some (.ref k_NoRow)))
    (b_NoOrder : PySem.W.nsIn K mainGlobals "NoOrder" = some (some (.ref k_NoOrder)))
    (b_NoNames : PySem.W.nsIn K mainGlobals "NoNames" = some (some (.ref k_NoNames)))
    (b_NoRim : PySem.W.nsIn K mainGlobals "NoRim" = some (some (.ref k_NoRim)))
    (b_NoTaking : PySem.W.nsIn K mainGlobals "NoTaking" = some (some (.ref k_NoTaking)))
    (b_NoText : PySem.W.nsIn K mainGlobals "NoText" = some (some (.ref k_NoText)))
    (b_NoLine : PySem.W.nsIn K mainGlobals "NoLine" = some (some (.ref k_NoLine)))
    (b_NoDeed : PySem.W.nsIn K mainGlobals "NoDeed" = some (some (.ref k_NoDeed)))
    (b_TooGreat : PySem.W.nsIn K mainGlobals "TooGreat" = some (some (.ref k_TooGreat)))
    (b_Lay : PySem.W.nsIn K mainGlobals "LayError" = some (some (.ref k_Lay)))
    (x_NoNumber_ex : PySem.W.excIn K k_NoNumber [.type "ValueError", .type "Exception", .type "BaseException", .type "object"] "ValueError.__new__" = true)
    (x_NoNumber_kp : PySem.W.keepIn K (.ref k_NoNumber) = true)
    (x_NoNumber_sb : PySem.W.subIn K (.ref k_NoNumber) (.type "BaseException") = some true)
    (x_NoNumber_ty : PySem.W.typeIn K (.ref k_NoNumber) = some (.type "type"))
    (x_NoNumber_hg : PySem.W.findIn K (.ref k_NoNumber) "__getattribute__" = some (some (.builtin "BaseException.__getattribute__")))
    (x_NoNumber_hk : PySem.W.findIn K (.ref k_NoNumber) "__getattr__" = some none)
    (x_NoNumber_hd : PySem.W.hasDictIn K k_NoNumber = true)
    (x_NoNumber_ha : PySem.W.findIn K (.ref k_NoNumber) "__class__" = some (some (.builtin "object.__class__")))
    (x_NoNumber_hn : PySem.W.specialIn K (.builtin "object.__class__") "__get__" = some (some (.builtin "getset_descriptor.__get__")))
    (x_NoNumber_ht : PySem.W.takesIn K (.builtin "object.__class__") = some true)
    (x_NoNumber_hm : PySem.W.mroIn K k_NoNumber (.type "object") = some true)
    (x_NoNumber_ve : PySem.W.kitOne K (.ref k_NoNumber) (.type "ValueError") = some true)
    (x_NoNumber_lay : PySem.W.exmOne K (.ref k_NoNumber) (.ref k_Lay) = some true)
    (x_NoNumber_q0 : PySem.W.kitOne K (.ref k_NoNumber) (.ref k_NoStack) = some false)
    (x_NoNumber_q1 : PySem.W.kitOne K (.ref k_NoNumber) (.ref k_NoNumber) = some true)
    (x_NoNumber_q2 : PySem.W.kitOne K (.ref k_NoNumber) (.ref k_NoPart) = some false)
    (x_NoNumber_q3 : PySem.W.kitOne K (.ref k_NoNumber) (.ref k_NoLot) = some false)
    (x_NoNumber_q4 : PySem.W.kitOne K (.ref k_NoNumber) (.ref k_NoRow) = some false)
    (x_NoNumber_q5 : PySem.W.kitOne K (.ref k_NoNumber) (.ref k_NoOrder) = some false)
    (x_NoNumber_q6 : PySem.W.kitOne K (.ref k_NoNumber) (.ref k_NoNames) = some false)
    (x_NoNumber_q7 : PySem.W.kitOne K (.ref k_NoNumber) (.ref k_NoRim) = some false)
    (x_NoNumber_q8 : PySem.W.kitOne K (.ref k_NoNumber) (.ref k_NoTaking) = some false)
    (x_NoNumber_q9 : PySem.W.kitOne K (.ref k_NoNumber) (.ref k_NoText) = some false)
    (x_NoNumber_q10 : PySem.W.kitOne K (.ref k_NoNumber) (.ref k_NoLine) = some false)
    (x_NoNumber_q11 : PySem.W.kitOne K (.ref k_NoNumber) (.ref k_NoDeed) = some false)
    (x_NoNumber_q12 : PySem.W.kitOne K (.ref k_NoNumber) (.ref k_TooGreat) = some false)
    (dst : (([(P38, (envOfC "_law_right" (defScope sRight10) 0 0 (.ref 0)).qual ++ "<lambda>")] : List (Addr × Str)).map (fun p : Addr × Str => p.1) ++ ([P3, P4, P6, P7, P11] : List Addr)).Nodup) :
    LamX.LawAtS l w K CX0 14 63 "_law_script" mg fa h := by
  have e := hfa.symm.trans (PySem.W.mg_of X T.g a40)
  cases e
  have D1 := def_mk (ps := ["thing", "least", "most"]) X T.g a1 l1 i1 k1 fun _ _ _ _ _ _ us hl => match us, hl with | [_, _, _], _ => rfl
  have D2 := def_mk (ps := ["number", "least", "most"]) X T.g a2 l2 i2 k2 fun _ _ _ _ _ _ us hl => match us, hl with | [_, _, _], _ => rfl
  have D3 := def_mk (ps := ["thing", "many"]) X T.g a3 l3 i3 k3 fun _ _ _ _ _ _ us hl => match us, hl with | [_, _], _ => rfl
  have D4 := def_mk (ps := ["things"]) X T.g a4 l4 i4 k4 fun _ _ _ _ _ _ us hl => match us, hl with | [_], _ => rfl
  have D5 := def_mk (ps := ["thing", "many"]) X T.g a5 l5 i5 k5 fun _ _ _ _ _ _ us hl => match us, hl with | [_, _], _ => rfl
  have D6 := def_mk (ps := ["face", "points"]) X T.g a6 l6 i6 k6 fun _ _ _ _ _ _ us hl => match us, hl with | [_, _], _ => rfl
  have D7 := def_mk (ps := ["points", "faces"]) X T.g a7 l7 i7 k7 fun _ _ _ _ _ _ us hl => match us, hl with | [_, _], _ => rfl
  have D8 := def_mk (ps := ["face", "points"]) X T.g a8 l8 i8 k8 fun _ _ _ _ _ _ us hl => match us, hl with | [_, _], _ => rfl
  have D9 := def_mk (ps := ["face"]) X T.g a9 l9 i9 k9 fun _ _ _ _ _ _ us hl => match us, hl with | [_], _ => rfl
  have D10 := def_mk (ps := ["thing"]) X T.g a10 l10 i10 k10 fun _ _ _ _ _ _ us hl => match us, hl with | [_], _ => rfl
  have D11 := def_mk (ps := ["n", "k", "thing"]) X T.g a11 l11 i11 k11 fun _ _ _ _ _ _ us hl => match us, hl with | [_, _, _], _ => rfl
  have D12 := def_mk (ps := ["stack"]) X T.g a12 l12 i12 k12 fun _ _ _ _ _ _ us hl => match us, hl with | [_], _ => rfl
  have D13 := def_mk (ps := ["stack", "number"]) X T.g a13 l13 i13 k13 fun _ _ _ _ _ _ us hl => match us, hl with | [_, _], _ => rfl
  have D14 := def_mk (ps := ["stack", "lot"]) X T.g a14 l14 i14 k14 fun _ _ _ _ _ _ us hl => match us, hl with | [_, _], _ => rfl
  have D15 := def_mk (ps := ["stack", "lot", "number"]) X T.g a15 l15 i15 k15 fun _ _ _ _ _ _ us hl => match us, hl with | [_, _, _], _ => rfl
  have D16 := def_mk (ps := ["stack", "lot"]) X T.g a16 l16 i16 k16 fun _ _ _ _ _ _ us hl => match us, hl with | [_, _], _ => rfl
  have D17 := def_mk (ps := ["laid", "face"]) X T.g a17 l17 i17 k17 fun _ _ _ _ _ _ us hl => match us, hl with | [_, _], _ => rfl
  have D18 := def_mk (ps := ["laid", "face"]) X T.g a18 l18 i18 k18 fun _ _ _ _ _ _ us hl => match us, hl with | [_, _], _ => rfl
  have D19 := def_mk (ps := ["stack", "lot", "number"]) X T.g a19 l19 i19 k19 fun _ _ _ _ _ _ us hl => match us, hl with | [_, _, _], _ => rfl
  have D20 := def_mk (ps := ["stack", "lot", "number"]) X T.g a20 l20 i20 k20 fun _ _ _ _ _ _ us hl => match us, hl with | [_, _, _], _ => rfl
  have D21 := def_mk (ps := ["stack", "lot", "number"]) X T.g a21 l21 i21 k21 fun _ _ _ _ _ _ us hl => match us, hl with | [_, _, _], _ => rfl
  have D22 := def_mk (ps := ["_law_e"]) X T.g a22 l22 i22 k22 fun _ _ _ _ _ _ us hl => match us, hl with | [_], _ => rfl
  have D23 := def_mk (ps := ["_law_call"]) X T.g a23 l23 i23 k23 fun _ _ _ _ _ _ us hl => match us, hl with | [_], _ => rfl
  have D24 := def_mk (ps := ["_law_found", "_law_due"]) X T.g a24 l24 i24 k24 fun _ _ _ _ _ _ us hl => match us, hl with | [_, _], _ => rfl
  have D25 := def_mk (ps := ["_law_script", "_law_k"]) X T.g a25 l25 i25 k25 fun _ _ _ _ _ _ us hl => match us, hl with | [_, _], _ => rfl
  have D26 := def_mk (ps := ["_law_cell_here"]) X T.g a26 l26 i26 k26 fun _ _ _ _ _ _ us hl => match us, hl with | [_], _ => rfl
  have D27 := def_mk (ps := ["_law_pen_here", "_law_many"]) X T.g a27 l27 i27 k27 fun _ _ _ _ _ _ us hl => match us, hl with | [_, _], _ => rfl
  have D28 := def_mk (ps := ["_law_n", "_law_k"]) X T.g a28 l28 i28 k28 fun _ _ _ _ _ _ us hl => match us, hl with | [_, _], _ => rfl
  have D29 := def_mk (ps := ["_law_pen_here", "_law_most"]) X T.g a29 l29 i29 k29 fun _ _ _ _ _ _ us hl => match us, hl with | [_, _], _ => rfl
  have D30 := def_mk (ps := ["_law_part", "_law_face"]) X T.g a30 l30 i30 k30 fun _ _ _ _ _ _ us hl => match us, hl with | [_, _], _ => rfl
  have D31 := def_mk (ps := ["_law_pen_here", "_law_stack_here"]) X T.g a31 l31 i31 k31 fun _ _ _ _ _ _ us hl => match us, hl with | [_, _], _ => rfl
  have D32 := def_mk (ps := ["_law_one", "_law_other"]) X T.g a32 l32 i32 k32 fun _ _ _ _ _ _ us hl => match us, hl with | [_, _], _ => rfl
  have D33 := def_mk (ps := ["_law_k", "_law_faces", "_law_face"]) X T.g a33 l33 i33 k33 fun _ _ _ _ _ _ us hl => match us, hl with | [_, _, _], _ => rfl
  have D34 := def_mk (ps := ["_law_faces", "_law_face"]) X T.g a34 l34 i34 k34 fun _ _ _ _ _ _ us hl => match us, hl with | [_, _], _ => rfl
  have D35 := def_mk (ps := ["_law_stack_here", "_law_numbers"]) X T.g a35 l35 i35 k35 fun _ _ _ _ _ _ us hl => match us, hl with | [_, _], _ => rfl
  have D36 := def_mk (ps := ["_law_pen_here", "_law_stack_here"]) X T.g a36 l36 i36 k36 fun _ _ _ _ _ _ us hl => match us, hl with | [_, _], _ => rfl
  have D37 := def_mk (ps := ["_law_stack_here", "_law_faces", "_law_face"]) X T.g a37 l37 i37 k37 fun _ _ _ _ _ _ us hl => match us, hl with | [_, _, _], _ => rfl
  have D38 := def_mk (ps := ["_law_stack_here", "_law_lot_here"]) X T.g a38 l38 i38 k38 fun _ _ _ _ _ _ us hl => match us, hl with | [_, _], _ => rfl
  have D39 := def_mk (ps := []) X T.g a39 l39 i39 k39 fun _ _ _ _ _ _ us hl => match us, hl with | [], _ => rfl
  have D40 := def_mk (ps := ["_law_script"]) X T.g a40 l40 i40 k40 fun _ _ _ _ _ _ us hl => match us, hl with | [_], _ => rfl
  have A3 := tab_at T X r3 D3.g l3 rfl u3 v3
  have A4 := tab_at T X r4 D4.g l4 rfl u4 v4
  have A6 := tab_at T X r6 D6.g l6 rfl u6 v6
  have A7 := tab_at T X r7 D7.g l7 rfl u7 v7
  have A11 := tab_at T X r11 D11.g l11 rfl u11 v11
  have A38 := tab_at T X r38 D38.g l38 rfl u38 v38
  have G : Kinds mg (fun j => ([k_NoStack, k_NoNumber, k_NoPart, k_NoLot, k_NoRow, k_NoOrder, k_NoNames, k_NoRim, k_NoTaking, k_NoText, k_NoLine, k_NoDeed, k_TooGreat] : List Addr).getD j 0) := ⟨PySem.W.mg_of X T.g b_NoStack, PySem.W.mg_of X T.g b_NoNumber, PySem.W.mg_of X T.g b_NoPart, PySem.W.mg_of X T.g b_NoLot, PySem.W.mg_of X T.g b_NoRow, PySem.W.mg_of X T.g b_NoOrder, PySem.W.mg_of X T.g b_NoNames, PySem.W.mg_of X T.g b_NoRim, PySem.W.mg_of X T.g b_NoTaking, PySem.W.mg_of X T.g b_NoText, PySem.W.mg_of X T.g b_NoLine, PySem.W.mg_of X T.g b_NoDeed, PySem.W.mg_of X T.g b_TooGreat⟩
  have gL := PySem.W.mg_of X T.g b_Lay
  have R_NoNumber : Ref K mg "NoNumber" k_NoNumber := ⟨⟨_, _, _, _, PySem.F.excBase_ValueError, x_NoNumber_ex⟩, PySem.W.mg_of X T.g b_NoNumber, x_NoNumber_kp, x_NoNumber_sb, x_NoNumber_ty⟩
  have K_NoNumber : Kind K (fun j => ([k_NoStack, k_NoNumber, k_NoPart, k_NoLot, k_NoRow, k_NoOrder, k_NoNames, k_NoRim, k_NoTaking, k_NoText, k_NoLine, k_NoDeed, k_TooGreat] : List Addr).getD j 0) k_Lay 1 k_NoNumber := ⟨by decide, ⟨x_NoNumber_hg, x_NoNumber_hk, x_NoNumber_sb, x_NoNumber_hd, x_NoNumber_ha, x_NoNumber_hn, x_NoNumber_ht, x_NoNumber_hm⟩, fun j hj => match j, hj with | 0, _ => x_NoNumber_q0 | 1, _ => x_NoNumber_q1 | 2, _ => x_NoNumber_q2 | 3, _ => x_NoNumber_q3 | 4, _ => x_NoNumber_q4 | 5, _ => x_NoNumber_q5 | 6, _ => x_NoNumber_q6 | 7, _ => x_NoNumber_q7 | 8, _ => x_NoNumber_q8 | 9, _ => x_NoNumber_q9 | 10, _ => x_NoNumber_q10 | 11, _ => x_NoNumber_q11 | 12, _ => x_NoNumber_q12 | j + 13, h => absurd h (by omega), x_NoNumber_ve, x_NoNumber_lay⟩
  refine ⟨PySem.W.fnOf "law" "law" (defArgs sLaw) (defBody sLaw) (defScope sLaw) .none kV40 dc40 pm40 an40 (.ref c40) ct40, [(c3, P3), (c4, P4), (c6, P6), (c7, P7), (c11, P11), (c38, P38)], spLaw K (mkTbs [P3, P4, P6, P7, P11] [(P38, (envOfC "_law_right" (defScope sRight10) 0 0 (.ref 0)).qual ++ "<lambda>")] dst), (List.forall_mem_cons.mpr ⟨A3.2, (List.forall_mem_cons.mpr ⟨A4.2, (List.forall_mem_cons.mpr ⟨A6.2, (List.forall_mem_cons.mpr ⟨A7.2, (List.forall_mem_cons.mpr ⟨A11.2, (List.forall_mem_cons.mpr ⟨A38.2, (fun p hp => nomatch hp)⟩)⟩)⟩)⟩)⟩)⟩), (List.forall_mem_cons.mpr ⟨w3, (List.forall_mem_cons.mpr ⟨w4, (List.forall_mem_cons.mpr ⟨w6, (List.forall_mem_cons.mpr ⟨w7, (List.forall_mem_cons.mpr ⟨w11, (List.forall_mem_cons.mpr ⟨w38, (fun p hp => nomatch hp)⟩)⟩)⟩)⟩)⟩)⟩), (List.forall_mem_cons.mpr ⟨A3.1, (List.forall_mem_cons.mpr ⟨A4.1, (List.forall_mem_cons.mpr ⟨A6.1, (List.forall_mem_cons.mpr ⟨A7.1, (List.forall_mem_cons.mpr ⟨A11.1, (List.forall_mem_cons.mpr ⟨A38.1, (fun p hp => nomatch hp)⟩)⟩)⟩)⟩)⟩)⟩), fun s u => .of_eq rfl, fun H a ns hl _ hT hS => ⟨a, ns, rfl, hS, hl, ?_, fun _ => rfl⟩, fun base hK hN TB => ?_⟩
  · have h5 : ∀ Q ∈ [(c3, P3), (c4, P4), (c6, P6), (c7, P7), (c11, P11), (c38, P38)].map (·.2), H Q = some (.tbl #[]) := fun Q hQ => by
      obtain ⟨p, hp, e⟩ := List.mem_map.mp hQ
      rw [← e]
      exact hT p hp
    refine mkTbs_tb (fun Q hQ => h5 Q ?_) (fun p hp => h5 p.1 ?_)
    · simp only [List.map_cons, List.map_nil, List.mem_cons, List.not_mem_nil, or_false] at hQ ⊢
      rcases hQ with z | z | z | z | z <;> simp [z]
    · simp only [List.map_cons, List.map_nil, List.mem_cons, List.not_mem_nil, or_false] at hp ⊢
      subst hp <;> simp
  · exact all_ok D1 D2 D3 D4 D5 D6 D7 D8 D9 D10 D11 D12 D13 D14 D15 D16 D17 D18 D19 D20 D21 D22 D23 D24 D25 D26 D27 D28 D29 D30 D31 D32 D33 D34 D35 D36 D37 D38 D39 D40 (tabB_of (TB (c3, P3) (by simp))) (show P3 ∈ [P3, P4, P6, P7, P11] by simp) (tabB_of (TB (c4, P4) (by simp))) (show P4 ∈ [P3, P4, P6, P7, P11] by simp) (tabB_of (TB (c6, P6) (by simp))) (show P6 ∈ [P3, P4, P6, P7, P11] by simp) (tabB_of (TB (c7, P7) (by simp))) (show P7 ∈ [P3, P4, P6, P7, P11] by simp) (tabB_of (TB (c11, P11) (by simp))) (show P11 ∈ [P3, P4, P6, P7, P11] by simp) (TB (c38, P38) (by simp)) (show _ ∈ [(P38, (envOfC "_law_right" (defScope sRight10) 0 0 (.ref 0)).qual ++ "<lambda>")] by simp) (PySem.W.mg_none_of X T.g z_isinstance) (PySem.W.mg_none_of X T.g z_int) (PySem.W.mg_none_of X T.g z_bool) (PySem.W.mg_none_of X T.g z_tuple) (PySem.W.mg_none_of X T.g z_all) (PySem.W.mg_none_of X T.g z_any) (PySem.W.mg_none_of X T.g z_range) (PySem.W.mg_none_of X T.g z_len) (PySem.W.mg_none_of X T.g z_sorted) (PySem.W.mg_none_of X T.g z_min) (PySem.W.mg_none_of X T.g z_set) (PySem.W.mg_none_of X T.g z_list) (PySem.W.mg_none_of X T.g z_str) (PySem.W.mg_none_of X T.g z_zip) (PySem.W.mg_none_of X T.g z_enumerate) (PySem.W.mg_none_of X T.g z_ValueError) (PySem.W.mg_of X T.g y_MOST_POINTS) (PySem.W.mg_of X T.g y_MOST_IN_FACE) (PySem.W.mg_of X T.g y_MOST_FACES) G gL R_NoNumber K_NoNumber
end Lf

open PySem PySem.W PyProof.Rows
set_option maxHeartbeats 0 in
theorem PySem.Challenge.cw_layfaces_k10_faces_laid_on_lots_holds : PySem.Challenge.rw_layfaces_k10_faces_laid_on_lots.Holds := by
  w_on; o_law; k_head; (case hw => w_witness2)
  k_fill
  refine Lf.walk_tabs (l := PySem.Challenge.rw_layfaces_k10_faces_laid_on_lots) (n := 63) (k := 14) (x := "_law_script") (CX := fun _ => L2.CX0) rfl (by decide) rfl ⟨rfl, by decide, by decide⟩ (fun w h Y => PySem.W.km_in_of Y) ?F (fun _ _ _ _ _ h => h)
  case F =>
    intro w mg mb mean fa h T KX hmg
    refine' Lf.all_mk T KX hmg ?a1 ?l1 ?i1 ?k1 ?a2 ?l2 ?i2 ?k2 ?a3 ?l3 ?i3 ?k3 ?a4 ?l4 ?i4 ?k4 ?a5 ?l5 ?i5 ?k5 ?a6 ?l6 ?i6 ?k6 ?a7 ?l7 ?i7 ?k7 ?a8 ?l8 ?i8 ?k8 ?a9 ?l9 ?i9 ?k9 ?a10 ?l10 ?i10 ?k10 ?a11 ?l11 ?i11 ?k11 ?a12 ?l12 ?i12 ?k12 ?a13 ?l13 ?i13 ?k13 ?a14 ?l14 ?i14 ?k14 ?a15 ?l15 ?i15 ?k15 ?a16 ?l16 ?i16 ?k16 ?a17 ?l17 ?i17 ?k17 ?a18 ?l18 ?i18 ?k18 ?a19 ?l19 ?i19 ?k19 ?a20 ?l20 ?i20 ?k20 ?a21 ?l21 ?i21 ?k21 ?a22 ?l22 ?i22 ?k22 ?a23 ?l23 ?i23 ?k23 ?a24 ?l24 ?i24 ?k24 ?a25 ?l25 ?i25 ?k25 ?a26 ?l26 ?i26 ?k26 ?a27 ?l27 ?i27 ?k27 ?a28 ?l28 ?i28 ?k28 ?a29 ?l29 ?i29 ?k29 ?a30 ?l30 ?i30 ?k30 ?a31 ?l31 ?i31 ?k31 ?a32 ?l32 ?i32 ?k32 ?a33 ?l33 ?i33 ?k33 ?a34 ?l34 ?i34 ?k34 ?a35 ?l35 ?i35 ?k35 ?a36 ?l36 ?i36 ?k36 ?a37 ?l37 ?i37 ?k37 ?a38 ?l38 ?i38 ?k38 ?a39 ?l39 ?i39 ?k39 ?a40 ?l40 ?i40 ?k40 ?u3 ?v3 ?w3 ?r3 ?u4 ?v4 ?w4 ?r4 ?u6 ?v6 ?w6 ?r6 ?u7 ?v7 ?w7 ?r7 ?u11 ?v11 ?w11 ?r11 ?u38 ?v38 ?w38 ?r38 ?z_isinstance ?z_int ?z_bool ?z_tuple ?z_all ?z_any ?z_range ?z_len ?z_sorted ?z_min ?z_set ?z_list ?z_str ?z_zip ?z_enumerate ?z_ValueError ?y_MOST_POINTS ?y_MOST_IN_FACE ?y_MOST_FACES ?b_NoStack ?b_NoNumber ?b_NoPart ?b_NoLot ?b_NoRow ?b_NoOrder ?b_NoNames ?b_NoRim ?b_NoTaking ?b_NoText ?b_NoLine ?b_NoDeed ?b_TooGreat ?b_Lay ?x_NoNumber_ex ?x_NoNumber_kp ?x_NoNumber_sb ?x_NoNumber_ty ?x_NoNumber_hg ?x_NoNumber_hk ?x_NoNumber_hd ?x_NoNumber_ha ?x_NoNumber_hn ?x_NoNumber_ht ?x_NoNumber_hm ?x_NoNumber_ve ?x_NoNumber_lay ?x_NoNumber_q0 ?x_NoNumber_q1 ?x_NoNumber_q2 ?x_NoNumber_q3 ?x_NoNumber_q4 ?x_NoNumber_q5 ?x_NoNumber_q6 ?x_NoNumber_q7 ?x_NoNumber_q8 ?x_NoNumber_q9 ?x_NoNumber_q10 ?x_NoNumber_q11 ?x_NoNumber_q12 ?dst
    (case a1 => k_is)
    (case l1 => k_is)
    (case i1 => k_is)
    (case k1 => k_is)
    (case a2 => k_is)
    (case l2 => k_is)
    (case i2 => k_is)
    (case k2 => k_is)
    (case a3 => k_is)
    (case l3 => k_is)
    (case i3 => k_is)
    (case k3 => k_is)
    (case a4 => k_is)
    (case l4 => k_is)
    (case i4 => k_is)
    (case k4 => k_is)
    (case a5 => k_is)
    (case l5 => k_is)
    (case i5 => k_is)
    (case k5 => k_is)
    (case a6 => k_is)
    (case l6 => k_is)
    (case i6 => k_is)
    (case k6 => k_is)
    (case a7 => k_is)
    (case l7 => k_is)
    (case i7 => k_is)
    (case k7 => k_is)
    (case a8 => k_is)
    (case l8 => k_is)
    (case i8 => k_is)
    (case k8 => k_is)
    (case a9 => k_is)
    (case l9 => k_is)
    (case i9 => k_is)
    (case k9 => k_is)
    (case a10 => k_is)
    (case l10 => k_is)
    (case i10 => k_is)
    (case k10 => k_is)
    (case a11 => k_is)
    (case l11 => k_is)
    (case i11 => k_is)
    (case k11 => k_is)
    (case a12 => k_is)
    (case l12 => k_is)
    (case i12 => k_is)
    (case k12 => k_is)
    (case a13 => k_is)
    (case l13 => k_is)
    (case i13 => k_is)
    (case k13 => k_is)
    (case a14 => k_is)
    (case l14 => k_is)
    (case i14 => k_is)
    (case k14 => k_is)
    (case a15 => k_is)
    (case l15 => k_is)
    (case i15 => k_is)
    (case k15 => k_is)
    (case a16 => k_is)
    (case l16 => k_is)
    (case i16 => k_is)
    (case k16 => k_is)
    (case a17 => k_is)
    (case l17 => k_is)
    (case i17 => k_is)
    (case k17 => k_is)
    (case a18 => k_is)
    (case l18 => k_is)
    (case i18 => k_is)
    (case k18 => k_is)
    (case a19 => k_is)
    (case l19 => k_is)
    (case i19 => k_is)
    (case k19 => k_is)
    (case a20 => k_is)
    (case l20 => k_is)
    (case i20 => k_is)
    (case k20 => k_is)
    (case a21 => k_is)
    (case l21 => k_is)
    (case i21 => k_is)
    (case k21 => k_is)
    (case a22 => k_is)
    (case l22 => k_is)
    (case i22 => k_is)
    (case k22 => k_is)
    (case a23 => k_is)
    (case l23 => k_is)
    (case i23 => k_is)
    (case k23 => k_is)
    (case a24 => k_is)
    (case l24 => k_is)
    (case i24 => k_is)
    (case k24 => k_is)
    (case a25 => k_is)
    (case l25 => k_is)
    (case i25 => k_is)
    (case k25 => k_is)
    (case a26 => k_is)
    (case l26 => k_is)
    (case i26 => k_is)
    (case k26 => k_is)
    (case a27 => k_is)
    (case l27 => k_is)
    (case i27 => k_is)
    (case k27 => k_is)
    (case a28 => k_is)
    (case l28 => k_is)
    (case i28 => k_is)
    (case k28 => k_is)
    (case a29 => k_is)
    (case l29 => k_is)
    (case i29 => k_is)
    (case k29 => k_is)
    (case a30 => k_is)
    (case l30 => k_is)
    (case i30 => k_is)
    (case k30 => k_is)
    (case a31 => k_is)
    (case l31 => k_is)
    (case i31 => k_is)
    (case k31 => k_is)
    (case a32 => k_is)
    (case l32 => k_is)
    (case i32 => k_is)
    (case k32 => k_is)
    (case a33 => k_is)
    (case l33 => k_is)
    (case i33 => k_is)
    (case k33 => k_is)
    (case a34 => k_is)
    (case l34 => k_is)
    (case i34 => k_is)
    (case k34 => k_is)
    (case a35 => k_is)
    (case l35 => k_is)
    (case i35 => k_is)
    (case k35 => k_is)
    (case a36 => k_is)
    (case l36 => k_is)
    (case i36 => k_is)
    (case k36 => k_is)
    (case a37 => k_is)
    (case l37 => k_is)
    (case i37 => k_is)
    (case k37 => k_is)
    (case a38 => k_is)
    (case l38 => k_is)
    (case i38 => k_is)
    (case k38 => k_is)
    (case a39 => k_is)
    (case l39 => k_is)
    (case i39 => k_is)
    (case k39 => k_is)
    (case a40 => k_is)
    (case l40 => k_is)
    (case i40 => k_is)
    (case k40 => k_is)
    (case u3 => k_is)
    (case u4 => k_is)
    (case u6 => k_is)
    (case u7 => k_is)
    (case u11 => k_is)
    (case u38 => k_is)
    (case z_isinstance => k_is)
    (case z_int => k_is)
    (case z_bool => k_is)
    (case z_tuple => k_is)
    (case z_all => k_is)
    (case z_any => k_is)
    (case z_range => k_is)
    (case z_len => k_is)
    (case z_sorted => k_is)
    (case z_min => k_is)
    (case z_set => k_is)
    (case z_list => k_is)
    (case z_str => k_is)
    (case z_zip => k_is)
    (case z_enumerate => k_is)
    (case z_ValueError => k_is)
    (case y_MOST_POINTS => k_is)
    (case y_MOST_IN_FACE => k_is)
    (case y_MOST_FACES => k_is)
    (case b_NoStack => k_is)
    (case b_NoNumber => k_is)
    (case b_NoPart => k_is)
    (case b_NoLot => k_is)
    (case b_NoRow => k_is)
    (case b_NoOrder => k_is)
    (case b_NoNames => k_is)
    (case b_NoRim => k_is)
    (case b_NoTaking => k_is)
    (case b_NoText => k_is)
    (case b_NoLine => k_is)
    (case b_NoDeed => k_is)
    (case b_TooGreat => k_is)
    (case b_Lay => k_is)
    (case v3 => rfl)
    (case w3 => kernel_rfl)
    (case r3 => kernel_rfl)
    (case v4 => rfl)
    (case w4 => kernel_rfl)
    (case r4 => kernel_rfl)
    (case v6 => rfl)
    (case w6 => kernel_rfl)
    (case r6 => kernel_rfl)
    (case v7 => rfl)
    (case w7 => kernel_rfl)
    (case r7 => kernel_rfl)
    (case v11 => rfl)
    (case w11 => kernel_rfl)
    (case r11 => kernel_rfl)
    (case v38 => rfl)
    (case w38 => kernel_rfl)
    (case r38 => kernel_rfl)
    (case x_NoNumber_ex => first | k_is | kernel_rfl)
    (case x_NoNumber_kp => first | k_is | kernel_rfl)
    (case x_NoNumber_sb => first | k_is | kernel_rfl)
    (case x_NoNumber_ty => first | k_is | kernel_rfl)
    (case x_NoNumber_hg => first | k_is | kernel_rfl)
    (case x_NoNumber_hk => first | k_is | kernel_rfl)
    (case x_NoNumber_hd => first | k_is | kernel_rfl)
    (case x_NoNumber_ha => first | k_is | kernel_rfl)
    (case x_NoNumber_hn => first | k_is | kernel_rfl)
    (case x_NoNumber_ht => first | k_is | kernel_rfl)
    (case x_NoNumber_hm => first | k_is | kernel_rfl)
    (case x_NoNumber_ve => first | k_is | kernel_rfl)
    (case x_NoNumber_lay => first | k_is | kernel_rfl)
    (case x_NoNumber_q0 => first | k_is | kernel_rfl)
    (case x_NoNumber_q1 => first | k_is | kernel_rfl)
    (case x_NoNumber_q2 => first | k_is | kernel_rfl)
    (case x_NoNumber_q3 => first | k_is | kernel_rfl)
    (case x_NoNumber_q4 => first | k_is | kernel_rfl)
    (case x_NoNumber_q5 => first | k_is | kernel_rfl)
    (case x_NoNumber_q6 => first | k_is | kernel_rfl)
    (case x_NoNumber_q7 => first | k_is | kernel_rfl)
    (case x_NoNumber_q8 => first | k_is | kernel_rfl)
    (case x_NoNumber_q9 => first | k_is | kernel_rfl)
    (case x_NoNumber_q10 => first | k_is | kernel_rfl)
    (case x_NoNumber_q11 => first | k_is | kernel_rfl)
    (case x_NoNumber_q12 => first | k_is | kernel_rfl)
    (case dst => decide)
